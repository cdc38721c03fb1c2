import Derived.Test.YtgdilnljjgdinaaGreatDoorLyWAll
namespace Go.Proofs.YtgdilnljjgdinaaGreatDoor
open Go.RowKit Go.Shelf
set_option maxRecDepth 100000 in
set_option maxHeartbeats 1000000 in
theorem lFa (s:ByteArray) {k p p1 k1 x:Nat} (w:World) (H0:(∀ u,Calls Tryz.prog 53 #[.string s,.int .i64 (k:Int)] u fun e w'=>e = .returned (.int .i64 (p:Int))∧w'=u)) (kp:(k:Int)<(p:Int)) (zp:∃ h:p<s.size,((s[p]'h).toNat:Int)=46) (wp:IntKind.i64.wrap ((p:Int)+1)=(p1:Int)) (wk:IntKind.i64.wrap ((k:Int)+1)=(k1:Int)) (B0:(∀ u,Calls Tryz.prog 53 #[.string s,.int .i64 (p1:Int)] u fun e w'=>e = .returned (.int .i64 (x:Int))∧w'=u)) (mek1:¬ (x:Int)=(k1:Int)) (mek:¬ (x:Int)=(k:Int)) (gx:¬ (x:Int)<(s.size:Int)) :
  Calls Tryz.prog 33 #[.string s,.int .i64 (k:Int)] w fun e w'=>e = .returned (.int .i64 (x:Int))∧w'=w:=by
 obtain ⟨np,yp⟩:=zp
 have ip:(p:Int)<(s.size:Int):=by omega
 have jp:(0:Int)≤(p:Int):=by omega
 have bmek1:((x:Int) == (k1:Int))=false:=by simpa using mek1
 have bmek:((x:Int) == (k:Int))=false:=by simpa using mek
 go_enter Tryz.func33,Tryz.ntmps33
 go_wp2_with fail
 refine (H0 _).mono ?_
 rintro e w1 ⟨rfl,rfl⟩
 clear H0
 go_wp2_with fail
 refine (B0 _).mono ?_
 rintro e w1 ⟨rfl,rfl⟩
 clear B0
 go_wp2
 go_ret
 exact ⟨rfl,rfl⟩
set_option maxRecDepth 100000 in
set_option maxHeartbeats 1000000 in
theorem lFb (s:ByteArray) {k p p1 k1 x:Nat} {C:Int} (w:World) (H0:(∀ u,Calls Tryz.prog 53 #[.string s,.int .i64 (k:Int)] u fun e w'=>e = .returned (.int .i64 (p:Int))∧w'=u)) (kp:(k:Int)<(p:Int)) (zp:∃ h:p<s.size,((s[p]'h).toNat:Int)=46) (wp:IntKind.i64.wrap ((p:Int)+1)=(p1:Int)) (wk:IntKind.i64.wrap ((k:Int)+1)=(k1:Int)) (B0:(∀ u,Calls Tryz.prog 53 #[.string s,.int .i64 (p1:Int)] u fun e w'=>e = .returned (.int .i64 (x:Int))∧w'=u)) (mek1:¬ (x:Int)=(k1:Int)) (mek:¬ (x:Int)=(k:Int)) (zx:∃ h:x<s.size,((s[x]'h).toNat:Int)=C) (c101:¬ C=101) (c69:¬ C=69) :
  Calls Tryz.prog 33 #[.string s,.int .i64 (k:Int)] w fun e w'=>e = .returned (.int .i64 (x:Int))∧w'=w:=by
 obtain ⟨np,yp⟩:=zp
 have ip:(p:Int)<(s.size:Int):=by omega
 have jp:(0:Int)≤(p:Int):=by omega
 have bmek1:((x:Int) == (k1:Int))=false:=by simpa using mek1
 have bmek:((x:Int) == (k:Int))=false:=by simpa using mek
 obtain ⟨nx,yx⟩:=zx
 have ix:(x:Int)<(s.size:Int):=by omega
 have jx:(0:Int)≤(x:Int):=by omega
 have bc101:(C == 101)=false:=by simpa using c101
 have bc69:(C == 69)=false:=by simpa using c69
 go_enter Tryz.func33,Tryz.ntmps33
 go_wp2_with fail
 refine (H0 _).mono ?_
 rintro e w1 ⟨rfl,rfl⟩
 clear H0
 go_wp2_with fail
 refine (B0 _).mono ?_
 rintro e w1 ⟨rfl,rfl⟩
 clear B0
 go_wp2
 go_ret
 exact ⟨rfl,rfl⟩
set_option maxRecDepth 100000 in
set_option maxHeartbeats 1000000 in
theorem lFl0 (s:ByteArray) {k p p1 k1 x q:Nat} (w:World) (H0:(∀ u,Calls Tryz.prog 53 #[.string s,.int .i64 (k:Int)] u fun e w'=>e = .returned (.int .i64 (p:Int))∧w'=u)) (kp:(k:Int)<(p:Int)) (zp:∃ h:p<s.size,((s[p]'h).toNat:Int)=46) (wp:IntKind.i64.wrap ((p:Int)+1)=(p1:Int)) (wk:IntKind.i64.wrap ((k:Int)+1)=(k1:Int)) (B0:(∀ u,Calls Tryz.prog 53 #[.string s,.int .i64 (p1:Int)] u fun e w'=>e = .returned (.int .i64 (x:Int))∧w'=u)) (mek1:¬ (x:Int)=(k1:Int)) (mek:¬ (x:Int)=(k:Int)) (zx:∃ h:x<s.size,((s[x]'h).toNat:Int)=101) (wx:IntKind.i64.wrap ((x:Int)+1)=(q:Int)) (gq:¬ (q:Int)<(s.size:Int)) (B1:(∀ u,Calls Tryz.prog 32 #[.string s,.int .i64 (q:Int)] u fun e w'=>e = .returned (.bool false)∧w'=u)) :
  Calls Tryz.prog 33 #[.string s,.int .i64 (k:Int)] w fun e w'=>e = .returned (.int .i64 (x:Int))∧w'=w:=by
 obtain ⟨np,yp⟩:=zp
 have ip:(p:Int)<(s.size:Int):=by omega
 have jp:(0:Int)≤(p:Int):=by omega
 have bmek1:((x:Int) == (k1:Int))=false:=by simpa using mek1
 have bmek:((x:Int) == (k:Int))=false:=by simpa using mek
 obtain ⟨nx,yx⟩:=zx
 have ix:(x:Int)<(s.size:Int):=by omega
 have jx:(0:Int)≤(x:Int):=by omega
 go_enter Tryz.func33,Tryz.ntmps33
 go_wp2_with fail
 refine (H0 _).mono ?_
 rintro e w1 ⟨rfl,rfl⟩
 clear H0
 go_wp2_with fail
 refine (B0 _).mono ?_
 rintro e w1 ⟨rfl,rfl⟩
 clear B0
 go_wp2_with fail
 refine (B1 _).mono ?_
 rintro e w1 ⟨rfl,rfl⟩
 clear B1
 go_wp2
 go_ret
 exact ⟨rfl,rfl⟩
set_option maxRecDepth 100000 in
set_option maxHeartbeats 1000000 in
theorem lFlp0 (s:ByteArray) {k p p1 k1 x q q2:Nat} (w:World) (H0:(∀ u,Calls Tryz.prog 53 #[.string s,.int .i64 (k:Int)] u fun e w'=>e = .returned (.int .i64 (p:Int))∧w'=u)) (kp:(k:Int)<(p:Int)) (zp:∃ h:p<s.size,((s[p]'h).toNat:Int)=46) (wp:IntKind.i64.wrap ((p:Int)+1)=(p1:Int)) (wk:IntKind.i64.wrap ((k:Int)+1)=(k1:Int)) (B0:(∀ u,Calls Tryz.prog 53 #[.string s,.int .i64 (p1:Int)] u fun e w'=>e = .returned (.int .i64 (x:Int))∧w'=u)) (mek1:¬ (x:Int)=(k1:Int)) (mek:¬ (x:Int)=(k:Int)) (zx:∃ h:x<s.size,((s[x]'h).toNat:Int)=101) (wx:IntKind.i64.wrap ((x:Int)+1)=(q:Int)) (zq:∃ h:q<s.size,((s[q]'h).toNat:Int)=43) (wq:IntKind.i64.wrap ((q:Int)+1)=(q2:Int)) (B1:(∀ u,Calls Tryz.prog 32 #[.string s,.int .i64 (q2:Int)] u fun e w'=>e = .returned (.bool false)∧w'=u)) :
  Calls Tryz.prog 33 #[.string s,.int .i64 (k:Int)] w fun e w'=>e = .returned (.int .i64 (x:Int))∧w'=w:=by
 obtain ⟨np,yp⟩:=zp
 have ip:(p:Int)<(s.size:Int):=by omega
 have jp:(0:Int)≤(p:Int):=by omega
 have bmek1:((x:Int) == (k1:Int))=false:=by simpa using mek1
 have bmek:((x:Int) == (k:Int))=false:=by simpa using mek
 obtain ⟨nx,yx⟩:=zx
 have ix:(x:Int)<(s.size:Int):=by omega
 have jx:(0:Int)≤(x:Int):=by omega
 obtain ⟨nq,yq⟩:=zq
 have iq:(q:Int)<(s.size:Int):=by omega
 have jq:(0:Int)≤(q:Int):=by omega
 go_enter Tryz.func33,Tryz.ntmps33
 go_wp2_with fail
 refine (H0 _).mono ?_
 rintro e w1 ⟨rfl,rfl⟩
 clear H0
 go_wp2_with fail
 refine (B0 _).mono ?_
 rintro e w1 ⟨rfl,rfl⟩
 clear B0
 go_wp2_with fail
 refine (B1 _).mono ?_
 rintro e w1 ⟨rfl,rfl⟩
 clear B1
 go_wp2
 go_ret
 exact ⟨rfl,rfl⟩
set_option maxRecDepth 100000 in
set_option maxHeartbeats 1000000 in
theorem lFlp1 (s:ByteArray) {k p p1 k1 x q q2 r:Nat} (w:World) (H0:(∀ u,Calls Tryz.prog 53 #[.string s,.int .i64 (k:Int)] u fun e w'=>e = .returned (.int .i64 (p:Int))∧w'=u)) (kp:(k:Int)<(p:Int)) (zp:∃ h:p<s.size,((s[p]'h).toNat:Int)=46) (wp:IntKind.i64.wrap ((p:Int)+1)=(p1:Int)) (wk:IntKind.i64.wrap ((k:Int)+1)=(k1:Int)) (B0:(∀ u,Calls Tryz.prog 53 #[.string s,.int .i64 (p1:Int)] u fun e w'=>e = .returned (.int .i64 (x:Int))∧w'=u)) (mek1:¬ (x:Int)=(k1:Int)) (mek:¬ (x:Int)=(k:Int)) (zx:∃ h:x<s.size,((s[x]'h).toNat:Int)=101) (wx:IntKind.i64.wrap ((x:Int)+1)=(q:Int)) (zq:∃ h:q<s.size,((s[q]'h).toNat:Int)=43) (wq:IntKind.i64.wrap ((q:Int)+1)=(q2:Int)) (B1:(∀ u,Calls Tryz.prog 32 #[.string s,.int .i64 (q2:Int)] u fun e w'=>e = .returned (.bool true)∧w'=u)) (B2:(∀ u,Calls Tryz.prog 53 #[.string s,.int .i64 (q2:Int)] u fun e w'=>e = .returned (.int .i64 (r:Int))∧w'=u)) :
  Calls Tryz.prog 33 #[.string s,.int .i64 (k:Int)] w fun e w'=>e = .returned (.int .i64 (r:Int))∧w'=w:=by
 obtain ⟨np,yp⟩:=zp
 have ip:(p:Int)<(s.size:Int):=by omega
 have jp:(0:Int)≤(p:Int):=by omega
 have bmek1:((x:Int) == (k1:Int))=false:=by simpa using mek1
 have bmek:((x:Int) == (k:Int))=false:=by simpa using mek
 obtain ⟨nx,yx⟩:=zx
 have ix:(x:Int)<(s.size:Int):=by omega
 have jx:(0:Int)≤(x:Int):=by omega
 obtain ⟨nq,yq⟩:=zq
 have iq:(q:Int)<(s.size:Int):=by omega
 have jq:(0:Int)≤(q:Int):=by omega
 go_enter Tryz.func33,Tryz.ntmps33
 go_wp2_with fail
 refine (H0 _).mono ?_
 rintro e w1 ⟨rfl,rfl⟩
 clear H0
 go_wp2_with fail
 refine (B0 _).mono ?_
 rintro e w1 ⟨rfl,rfl⟩
 clear B0
 go_wp2_with fail
 refine (B1 _).mono ?_
 rintro e w1 ⟨rfl,rfl⟩
 clear B1
 go_wp2_with fail
 refine (B2 _).mono ?_
 rintro e w1 ⟨rfl,rfl⟩
 clear B2
 go_wp2
 go_ret
 exact ⟨rfl,rfl⟩
set_option maxRecDepth 100000 in
set_option maxHeartbeats 1000000 in
theorem lFlm0 (s:ByteArray) {k p p1 k1 x q q2:Nat} (w:World) (H0:(∀ u,Calls Tryz.prog 53 #[.string s,.int .i64 (k:Int)] u fun e w'=>e = .returned (.int .i64 (p:Int))∧w'=u)) (kp:(k:Int)<(p:Int)) (zp:∃ h:p<s.size,((s[p]'h).toNat:Int)=46) (wp:IntKind.i64.wrap ((p:Int)+1)=(p1:Int)) (wk:IntKind.i64.wrap ((k:Int)+1)=(k1:Int)) (B0:(∀ u,Calls Tryz.prog 53 #[.string s,.int .i64 (p1:Int)] u fun e w'=>e = .returned (.int .i64 (x:Int))∧w'=u)) (mek1:¬ (x:Int)=(k1:Int)) (mek:¬ (x:Int)=(k:Int)) (zx:∃ h:x<s.size,((s[x]'h).toNat:Int)=101) (wx:IntKind.i64.wrap ((x:Int)+1)=(q:Int)) (zq:∃ h:q<s.size,((s[q]'h).toNat:Int)=45) (wq:IntKind.i64.wrap ((q:Int)+1)=(q2:Int)) (B1:(∀ u,Calls Tryz.prog 32 #[.string s,.int .i64 (q2:Int)] u fun e w'=>e = .returned (.bool false)∧w'=u)) :
  Calls Tryz.prog 33 #[.string s,.int .i64 (k:Int)] w fun e w'=>e = .returned (.int .i64 (x:Int))∧w'=w:=by
 obtain ⟨np,yp⟩:=zp
 have ip:(p:Int)<(s.size:Int):=by omega
 have jp:(0:Int)≤(p:Int):=by omega
 have bmek1:((x:Int) == (k1:Int))=false:=by simpa using mek1
 have bmek:((x:Int) == (k:Int))=false:=by simpa using mek
 obtain ⟨nx,yx⟩:=zx
 have ix:(x:Int)<(s.size:Int):=by omega
 have jx:(0:Int)≤(x:Int):=by omega
 obtain ⟨nq,yq⟩:=zq
 have iq:(q:Int)<(s.size:Int):=by omega
 have jq:(0:Int)≤(q:Int):=by omega
 go_enter Tryz.func33,Tryz.ntmps33
 go_wp2_with fail
 refine (H0 _).mono ?_
 rintro e w1 ⟨rfl,rfl⟩
 clear H0
 go_wp2_with fail
 refine (B0 _).mono ?_
 rintro e w1 ⟨rfl,rfl⟩
 clear B0
 go_wp2_with fail
 refine (B1 _).mono ?_
 rintro e w1 ⟨rfl,rfl⟩
 clear B1
 go_wp2
 go_ret
 exact ⟨rfl,rfl⟩
set_option maxRecDepth 100000 in
set_option maxHeartbeats 1000000 in
theorem lFlm1 (s:ByteArray) {k p p1 k1 x q q2 r:Nat} (w:World) (H0:(∀ u,Calls Tryz.prog 53 #[.string s,.int .i64 (k:Int)] u fun e w'=>e = .returned (.int .i64 (p:Int))∧w'=u)) (kp:(k:Int)<(p:Int)) (zp:∃ h:p<s.size,((s[p]'h).toNat:Int)=46) (wp:IntKind.i64.wrap ((p:Int)+1)=(p1:Int)) (wk:IntKind.i64.wrap ((k:Int)+1)=(k1:Int)) (B0:(∀ u,Calls Tryz.prog 53 #[.string s,.int .i64 (p1:Int)] u fun e w'=>e = .returned (.int .i64 (x:Int))∧w'=u)) (mek1:¬ (x:Int)=(k1:Int)) (mek:¬ (x:Int)=(k:Int)) (zx:∃ h:x<s.size,((s[x]'h).toNat:Int)=101) (wx:IntKind.i64.wrap ((x:Int)+1)=(q:Int)) (zq:∃ h:q<s.size,((s[q]'h).toNat:Int)=45) (wq:IntKind.i64.wrap ((q:Int)+1)=(q2:Int)) (B1:(∀ u,Calls Tryz.prog 32 #[.string s,.int .i64 (q2:Int)] u fun e w'=>e = .returned (.bool true)∧w'=u)) (B2:(∀ u,Calls Tryz.prog 53 #[.string s,.int .i64 (q2:Int)] u fun e w'=>e = .returned (.int .i64 (r:Int))∧w'=u)) :
  Calls Tryz.prog 33 #[.string s,.int .i64 (k:Int)] w fun e w'=>e = .returned (.int .i64 (r:Int))∧w'=w:=by
 obtain ⟨np,yp⟩:=zp
 have ip:(p:Int)<(s.size:Int):=by omega
 have jp:(0:Int)≤(p:Int):=by omega
 have bmek1:((x:Int) == (k1:Int))=false:=by simpa using mek1
 have bmek:((x:Int) == (k:Int))=false:=by simpa using mek
 obtain ⟨nx,yx⟩:=zx
 have ix:(x:Int)<(s.size:Int):=by omega
 have jx:(0:Int)≤(x:Int):=by omega
 obtain ⟨nq,yq⟩:=zq
 have iq:(q:Int)<(s.size:Int):=by omega
 have jq:(0:Int)≤(q:Int):=by omega
 go_enter Tryz.func33,Tryz.ntmps33
 go_wp2_with fail
 refine (H0 _).mono ?_
 rintro e w1 ⟨rfl,rfl⟩
 clear H0
 go_wp2_with fail
 refine (B0 _).mono ?_
 rintro e w1 ⟨rfl,rfl⟩
 clear B0
 go_wp2_with fail
 refine (B1 _).mono ?_
 rintro e w1 ⟨rfl,rfl⟩
 clear B1
 go_wp2_with fail
 refine (B2 _).mono ?_
 rintro e w1 ⟨rfl,rfl⟩
 clear B2
 go_wp2
 go_ret
 exact ⟨rfl,rfl⟩
set_option maxRecDepth 100000 in
set_option maxHeartbeats 1000000 in
theorem lFld0 (s:ByteArray) {k p p1 k1 x q:Nat} {D:Int} (w:World) (H0:(∀ u,Calls Tryz.prog 53 #[.string s,.int .i64 (k:Int)] u fun e w'=>e = .returned (.int .i64 (p:Int))∧w'=u)) (kp:(k:Int)<(p:Int)) (zp:∃ h:p<s.size,((s[p]'h).toNat:Int)=46) (wp:IntKind.i64.wrap ((p:Int)+1)=(p1:Int)) (wk:IntKind.i64.wrap ((k:Int)+1)=(k1:Int)) (B0:(∀ u,Calls Tryz.prog 53 #[.string s,.int .i64 (p1:Int)] u fun e w'=>e = .returned (.int .i64 (x:Int))∧w'=u)) (mek1:¬ (x:Int)=(k1:Int)) (mek:¬ (x:Int)=(k:Int)) (zx:∃ h:x<s.size,((s[x]'h).toNat:Int)=101) (wx:IntKind.i64.wrap ((x:Int)+1)=(q:Int)) (zq:∃ h:q<s.size,((s[q]'h).toNat:Int)=D) (c43:¬ D=43) (c45:¬ D=45) (B1:(∀ u,Calls Tryz.prog 32 #[.string s,.int .i64 (q:Int)] u fun e w'=>e = .returned (.bool false)∧w'=u)) :
  Calls Tryz.prog 33 #[.string s,.int .i64 (k:Int)] w fun e w'=>e = .returned (.int .i64 (x:Int))∧w'=w:=by
 obtain ⟨np,yp⟩:=zp
 have ip:(p:Int)<(s.size:Int):=by omega
 have jp:(0:Int)≤(p:Int):=by omega
 have bmek1:((x:Int) == (k1:Int))=false:=by simpa using mek1
 have bmek:((x:Int) == (k:Int))=false:=by simpa using mek
 obtain ⟨nx,yx⟩:=zx
 have ix:(x:Int)<(s.size:Int):=by omega
 have jx:(0:Int)≤(x:Int):=by omega
 obtain ⟨nq,yq⟩:=zq
 have iq:(q:Int)<(s.size:Int):=by omega
 have jq:(0:Int)≤(q:Int):=by omega
 have bc43:(D == 43)=false:=by simpa using c43
 have bc45:(D == 45)=false:=by simpa using c45
 go_enter Tryz.func33,Tryz.ntmps33
 go_wp2_with fail
 refine (H0 _).mono ?_
 rintro e w1 ⟨rfl,rfl⟩
 clear H0
 go_wp2_with fail
 refine (B0 _).mono ?_
 rintro e w1 ⟨rfl,rfl⟩
 clear B0
 go_wp2_with fail
 refine (B1 _).mono ?_
 rintro e w1 ⟨rfl,rfl⟩
 clear B1
 go_wp2
 go_ret
 exact ⟨rfl,rfl⟩
set_option maxRecDepth 100000 in
set_option maxHeartbeats 1000000 in
theorem lFld1 (s:ByteArray) {k p p1 k1 x q r:Nat} {D:Int} (w:World) (H0:(∀ u,Calls Tryz.prog 53 #[.string s,.int .i64 (k:Int)] u fun e w'=>e = .returned (.int .i64 (p:Int))∧w'=u)) (kp:(k:Int)<(p:Int)) (zp:∃ h:p<s.size,((s[p]'h).toNat:Int)=46) (wp:IntKind.i64.wrap ((p:Int)+1)=(p1:Int)) (wk:IntKind.i64.wrap ((k:Int)+1)=(k1:Int)) (B0:(∀ u,Calls Tryz.prog 53 #[.string s,.int .i64 (p1:Int)] u fun e w'=>e = .returned (.int .i64 (x:Int))∧w'=u)) (mek1:¬ (x:Int)=(k1:Int)) (mek:¬ (x:Int)=(k:Int)) (zx:∃ h:x<s.size,((s[x]'h).toNat:Int)=101) (wx:IntKind.i64.wrap ((x:Int)+1)=(q:Int)) (zq:∃ h:q<s.size,((s[q]'h).toNat:Int)=D) (c43:¬ D=43) (c45:¬ D=45) (B1:(∀ u,Calls Tryz.prog 32 #[.string s,.int .i64 (q:Int)] u fun e w'=>e = .returned (.bool true)∧w'=u)) (B2:(∀ u,Calls Tryz.prog 53 #[.string s,.int .i64 (q:Int)] u fun e w'=>e = .returned (.int .i64 (r:Int))∧w'=u)) :
  Calls Tryz.prog 33 #[.string s,.int .i64 (k:Int)] w fun e w'=>e = .returned (.int .i64 (r:Int))∧w'=w:=by
 obtain ⟨np,yp⟩:=zp
 have ip:(p:Int)<(s.size:Int):=by omega
 have jp:(0:Int)≤(p:Int):=by omega
 have bmek1:((x:Int) == (k1:Int))=false:=by simpa using mek1
 have bmek:((x:Int) == (k:Int))=false:=by simpa using mek
 obtain ⟨nx,yx⟩:=zx
 have ix:(x:Int)<(s.size:Int):=by omega
 have jx:(0:Int)≤(x:Int):=by omega
 obtain ⟨nq,yq⟩:=zq
 have iq:(q:Int)<(s.size:Int):=by omega
 have jq:(0:Int)≤(q:Int):=by omega
 have bc43:(D == 43)=false:=by simpa using c43
 have bc45:(D == 45)=false:=by simpa using c45
 go_enter Tryz.func33,Tryz.ntmps33
 go_wp2_with fail
 refine (H0 _).mono ?_
 rintro e w1 ⟨rfl,rfl⟩
 clear H0
 go_wp2_with fail
 refine (B0 _).mono ?_
 rintro e w1 ⟨rfl,rfl⟩
 clear B0
 go_wp2_with fail
 refine (B1 _).mono ?_
 rintro e w1 ⟨rfl,rfl⟩
 clear B1
 go_wp2_with fail
 refine (B2 _).mono ?_
 rintro e w1 ⟨rfl,rfl⟩
 clear B2
 go_wp2
 go_ret
 exact ⟨rfl,rfl⟩
set_option maxRecDepth 100000 in
set_option maxHeartbeats 1000000 in
theorem lFu0 (s:ByteArray) {k p p1 k1 x q:Nat} (w:World) (H0:(∀ u,Calls Tryz.prog 53 #[.string s,.int .i64 (k:Int)] u fun e w'=>e = .returned (.int .i64 (p:Int))∧w'=u)) (kp:(k:Int)<(p:Int)) (zp:∃ h:p<s.size,((s[p]'h).toNat:Int)=46) (wp:IntKind.i64.wrap ((p:Int)+1)=(p1:Int)) (wk:IntKind.i64.wrap ((k:Int)+1)=(k1:Int)) (B0:(∀ u,Calls Tryz.prog 53 #[.string s,.int .i64 (p1:Int)] u fun e w'=>e = .returned (.int .i64 (x:Int))∧w'=u)) (mek1:¬ (x:Int)=(k1:Int)) (mek:¬ (x:Int)=(k:Int)) (zx:∃ h:x<s.size,((s[x]'h).toNat:Int)=69) (wx:IntKind.i64.wrap ((x:Int)+1)=(q:Int)) (gq:¬ (q:Int)<(s.size:Int)) (B1:(∀ u,Calls Tryz.prog 32 #[.string s,.int .i64 (q:Int)] u fun e w'=>e = .returned (.bool false)∧w'=u)) :
  Calls Tryz.prog 33 #[.string s,.int .i64 (k:Int)] w fun e w'=>e = .returned (.int .i64 (x:Int))∧w'=w:=by
 obtain ⟨np,yp⟩:=zp
 have ip:(p:Int)<(s.size:Int):=by omega
 have jp:(0:Int)≤(p:Int):=by omega
 have bmek1:((x:Int) == (k1:Int))=false:=by simpa using mek1
 have bmek:((x:Int) == (k:Int))=false:=by simpa using mek
 obtain ⟨nx,yx⟩:=zx
 have ix:(x:Int)<(s.size:Int):=by omega
 have jx:(0:Int)≤(x:Int):=by omega
 go_enter Tryz.func33,Tryz.ntmps33
 go_wp2_with fail
 refine (H0 _).mono ?_
 rintro e w1 ⟨rfl,rfl⟩
 clear H0
 go_wp2_with fail
 refine (B0 _).mono ?_
 rintro e w1 ⟨rfl,rfl⟩
 clear B0
 go_wp2_with fail
 refine (B1 _).mono ?_
 rintro e w1 ⟨rfl,rfl⟩
 clear B1
 go_wp2
 go_ret
 exact ⟨rfl,rfl⟩
set_option maxRecDepth 100000 in
set_option maxHeartbeats 1000000 in
theorem lFup0 (s:ByteArray) {k p p1 k1 x q q2:Nat} (w:World) (H0:(∀ u,Calls Tryz.prog 53 #[.string s,.int .i64 (k:Int)] u fun e w'=>e = .returned (.int .i64 (p:Int))∧w'=u)) (kp:(k:Int)<(p:Int)) (zp:∃ h:p<s.size,((s[p]'h).toNat:Int)=46) (wp:IntKind.i64.wrap ((p:Int)+1)=(p1:Int)) (wk:IntKind.i64.wrap ((k:Int)+1)=(k1:Int)) (B0:(∀ u,Calls Tryz.prog 53 #[.string s,.int .i64 (p1:Int)] u fun e w'=>e = .returned (.int .i64 (x:Int))∧w'=u)) (mek1:¬ (x:Int)=(k1:Int)) (mek:¬ (x:Int)=(k:Int)) (zx:∃ h:x<s.size,((s[x]'h).toNat:Int)=69) (wx:IntKind.i64.wrap ((x:Int)+1)=(q:Int)) (zq:∃ h:q<s.size,((s[q]'h).toNat:Int)=43) (wq:IntKind.i64.wrap ((q:Int)+1)=(q2:Int)) (B1:(∀ u,Calls Tryz.prog 32 #[.string s,.int .i64 (q2:Int)] u fun e w'=>e = .returned (.bool false)∧w'=u)) :
  Calls Tryz.prog 33 #[.string s,.int .i64 (k:Int)] w fun e w'=>e = .returned (.int .i64 (x:Int))∧w'=w:=by
 obtain ⟨np,yp⟩:=zp
 have ip:(p:Int)<(s.size:Int):=by omega
 have jp:(0:Int)≤(p:Int):=by omega
 have bmek1:((x:Int) == (k1:Int))=false:=by simpa using mek1
 have bmek:((x:Int) == (k:Int))=false:=by simpa using mek
 obtain ⟨nx,yx⟩:=zx
 have ix:(x:Int)<(s.size:Int):=by omega
 have jx:(0:Int)≤(x:Int):=by omega
 obtain ⟨nq,yq⟩:=zq
 have iq:(q:Int)<(s.size:Int):=by omega
 have jq:(0:Int)≤(q:Int):=by omega
 go_enter Tryz.func33,Tryz.ntmps33
 go_wp2_with fail
 refine (H0 _).mono ?_
 rintro e w1 ⟨rfl,rfl⟩
 clear H0
 go_wp2_with fail
 refine (B0 _).mono ?_
 rintro e w1 ⟨rfl,rfl⟩
 clear B0
 go_wp2_with fail
 refine (B1 _).mono ?_
 rintro e w1 ⟨rfl,rfl⟩
 clear B1
 go_wp2
 go_ret
 exact ⟨rfl,rfl⟩
set_option maxRecDepth 100000 in
set_option maxHeartbeats 1000000 in
theorem lFup1 (s:ByteArray) {k p p1 k1 x q q2 r:Nat} (w:World) (H0:(∀ u,Calls Tryz.prog 53 #[.string s,.int .i64 (k:Int)] u fun e w'=>e = .returned (.int .i64 (p:Int))∧w'=u)) (kp:(k:Int)<(p:Int)) (zp:∃ h:p<s.size,((s[p]'h).toNat:Int)=46) (wp:IntKind.i64.wrap ((p:Int)+1)=(p1:Int)) (wk:IntKind.i64.wrap ((k:Int)+1)=(k1:Int)) (B0:(∀ u,Calls Tryz.prog 53 #[.string s,.int .i64 (p1:Int)] u fun e w'=>e = .returned (.int .i64 (x:Int))∧w'=u)) (mek1:¬ (x:Int)=(k1:Int)) (mek:¬ (x:Int)=(k:Int)) (zx:∃ h:x<s.size,((s[x]'h).toNat:Int)=69) (wx:IntKind.i64.wrap ((x:Int)+1)=(q:Int)) (zq:∃ h:q<s.size,((s[q]'h).toNat:Int)=43) (wq:IntKind.i64.wrap ((q:Int)+1)=(q2:Int)) (B1:(∀ u,Calls Tryz.prog 32 #[.string s,.int .i64 (q2:Int)] u fun e w'=>e = .returned (.bool true)∧w'=u)) (B2:(∀ u,Calls Tryz.prog 53 #[.string s,.int .i64 (q2:Int)] u fun e w'=>e = .returned (.int .i64 (r:Int))∧w'=u)) :
  Calls Tryz.prog 33 #[.string s,.int .i64 (k:Int)] w fun e w'=>e = .returned (.int .i64 (r:Int))∧w'=w:=by
 obtain ⟨np,yp⟩:=zp
 have ip:(p:Int)<(s.size:Int):=by omega
 have jp:(0:Int)≤(p:Int):=by omega
 have bmek1:((x:Int) == (k1:Int))=false:=by simpa using mek1
 have bmek:((x:Int) == (k:Int))=false:=by simpa using mek
 obtain ⟨nx,yx⟩:=zx
 have ix:(x:Int)<(s.size:Int):=by omega
 have jx:(0:Int)≤(x:Int):=by omega
 obtain ⟨nq,yq⟩:=zq
 have iq:(q:Int)<(s.size:Int):=by omega
 have jq:(0:Int)≤(q:Int):=by omega
 go_enter Tryz.func33,Tryz.ntmps33
 go_wp2_with fail
 refine (H0 _).mono ?_
 rintro e w1 ⟨rfl,rfl⟩
 clear H0
 go_wp2_with fail
 refine (B0 _).mono ?_
 rintro e w1 ⟨rfl,rfl⟩
 clear B0
 go_wp2_with fail
 refine (B1 _).mono ?_
 rintro e w1 ⟨rfl,rfl⟩
 clear B1
 go_wp2_with fail
 refine (B2 _).mono ?_
 rintro e w1 ⟨rfl,rfl⟩
 clear B2
 go_wp2
 go_ret
 exact ⟨rfl,rfl⟩
set_option maxRecDepth 100000 in
set_option maxHeartbeats 1000000 in
theorem lFum0 (s:ByteArray) {k p p1 k1 x q q2:Nat} (w:World) (H0:(∀ u,Calls Tryz.prog 53 #[.string s,.int .i64 (k:Int)] u fun e w'=>e = .returned (.int .i64 (p:Int))∧w'=u)) (kp:(k:Int)<(p:Int)) (zp:∃ h:p<s.size,((s[p]'h).toNat:Int)=46) (wp:IntKind.i64.wrap ((p:Int)+1)=(p1:Int)) (wk:IntKind.i64.wrap ((k:Int)+1)=(k1:Int)) (B0:(∀ u,Calls Tryz.prog 53 #[.string s,.int .i64 (p1:Int)] u fun e w'=>e = .returned (.int .i64 (x:Int))∧w'=u)) (mek1:¬ (x:Int)=(k1:Int)) (mek:¬ (x:Int)=(k:Int)) (zx:∃ h:x<s.size,((s[x]'h).toNat:Int)=69) (wx:IntKind.i64.wrap ((x:Int)+1)=(q:Int)) (zq:∃ h:q<s.size,((s[q]'h).toNat:Int)=45) (wq:IntKind.i64.wrap ((q:Int)+1)=(q2:Int)) (B1:(∀ u,Calls Tryz.prog 32 #[.string s,.int .i64 (q2:Int)] u fun e w'=>e = .returned (.bool false)∧w'=u)) :
  Calls Tryz.prog 33 #[.string s,.int .i64 (k:Int)] w fun e w'=>e = .returned (.int .i64 (x:Int))∧w'=w:=by
 obtain ⟨np,yp⟩:=zp
 have ip:(p:Int)<(s.size:Int):=by omega
 have jp:(0:Int)≤(p:Int):=by omega
 have bmek1:((x:Int) == (k1:Int))=false:=by simpa using mek1
 have bmek:((x:Int) == (k:Int))=false:=by simpa using mek
 obtain ⟨nx,yx⟩:=zx
 have ix:(x:Int)<(s.size:Int):=by omega
 have jx:(0:Int)≤(x:Int):=by omega
 obtain ⟨nq,yq⟩:=zq
 have iq:(q:Int)<(s.size:Int):=by omega
 have jq:(0:Int)≤(q:Int):=by omega
 go_enter Tryz.func33,Tryz.ntmps33
 go_wp2_with fail
 refine (H0 _).mono ?_
 rintro e w1 ⟨rfl,rfl⟩
 clear H0
 go_wp2_with fail
 refine (B0 _).mono ?_
 rintro e w1 ⟨rfl,rfl⟩
 clear B0
 go_wp2_with fail
 refine (B1 _).mono ?_
 rintro e w1 ⟨rfl,rfl⟩
 clear B1
 go_wp2
 go_ret
 exact ⟨rfl,rfl⟩
set_option maxRecDepth 100000 in
set_option maxHeartbeats 1000000 in
theorem lFum1 (s:ByteArray) {k p p1 k1 x q q2 r:Nat} (w:World) (H0:(∀ u,Calls Tryz.prog 53 #[.string s,.int .i64 (k:Int)] u fun e w'=>e = .returned (.int .i64 (p:Int))∧w'=u)) (kp:(k:Int)<(p:Int)) (zp:∃ h:p<s.size,((s[p]'h).toNat:Int)=46) (wp:IntKind.i64.wrap ((p:Int)+1)=(p1:Int)) (wk:IntKind.i64.wrap ((k:Int)+1)=(k1:Int)) (B0:(∀ u,Calls Tryz.prog 53 #[.string s,.int .i64 (p1:Int)] u fun e w'=>e = .returned (.int .i64 (x:Int))∧w'=u)) (mek1:¬ (x:Int)=(k1:Int)) (mek:¬ (x:Int)=(k:Int)) (zx:∃ h:x<s.size,((s[x]'h).toNat:Int)=69) (wx:IntKind.i64.wrap ((x:Int)+1)=(q:Int)) (zq:∃ h:q<s.size,((s[q]'h).toNat:Int)=45) (wq:IntKind.i64.wrap ((q:Int)+1)=(q2:Int)) (B1:(∀ u,Calls Tryz.prog 32 #[.string s,.int .i64 (q2:Int)] u fun e w'=>e = .returned (.bool true)∧w'=u)) (B2:(∀ u,Calls Tryz.prog 53 #[.string s,.int .i64 (q2:Int)] u fun e w'=>e = .returned (.int .i64 (r:Int))∧w'=u)) :
  Calls Tryz.prog 33 #[.string s,.int .i64 (k:Int)] w fun e w'=>e = .returned (.int .i64 (r:Int))∧w'=w:=by
 obtain ⟨np,yp⟩:=zp
 have ip:(p:Int)<(s.size:Int):=by omega
 have jp:(0:Int)≤(p:Int):=by omega
 have bmek1:((x:Int) == (k1:Int))=false:=by simpa using mek1
 have bmek:((x:Int) == (k:Int))=false:=by simpa using mek
 obtain ⟨nx,yx⟩:=zx
 have ix:(x:Int)<(s.size:Int):=by omega
 have jx:(0:Int)≤(x:Int):=by omega
 obtain ⟨nq,yq⟩:=zq
 have iq:(q:Int)<(s.size:Int):=by omega
 have jq:(0:Int)≤(q:Int):=by omega
 go_enter Tryz.func33,Tryz.ntmps33
 go_wp2_with fail
 refine (H0 _).mono ?_
 rintro e w1 ⟨rfl,rfl⟩
 clear H0
 go_wp2_with fail
 refine (B0 _).mono ?_
 rintro e w1 ⟨rfl,rfl⟩
 clear B0
 go_wp2_with fail
 refine (B1 _).mono ?_
 rintro e w1 ⟨rfl,rfl⟩
 clear B1
 go_wp2_with fail
 refine (B2 _).mono ?_
 rintro e w1 ⟨rfl,rfl⟩
 clear B2
 go_wp2
 go_ret
 exact ⟨rfl,rfl⟩
set_option maxRecDepth 100000 in
set_option maxHeartbeats 1000000 in
theorem lFud0 (s:ByteArray) {k p p1 k1 x q:Nat} {D:Int} (w:World) (H0:(∀ u,Calls Tryz.prog 53 #[.string s,.int .i64 (k:Int)] u fun e w'=>e = .returned (.int .i64 (p:Int))∧w'=u)) (kp:(k:Int)<(p:Int)) (zp:∃ h:p<s.size,((s[p]'h).toNat:Int)=46) (wp:IntKind.i64.wrap ((p:Int)+1)=(p1:Int)) (wk:IntKind.i64.wrap ((k:Int)+1)=(k1:Int)) (B0:(∀ u,Calls Tryz.prog 53 #[.string s,.int .i64 (p1:Int)] u fun e w'=>e = .returned (.int .i64 (x:Int))∧w'=u)) (mek1:¬ (x:Int)=(k1:Int)) (mek:¬ (x:Int)=(k:Int)) (zx:∃ h:x<s.size,((s[x]'h).toNat:Int)=69) (wx:IntKind.i64.wrap ((x:Int)+1)=(q:Int)) (zq:∃ h:q<s.size,((s[q]'h).toNat:Int)=D) (c43:¬ D=43) (c45:¬ D=45) (B1:(∀ u,Calls Tryz.prog 32 #[.string s,.int .i64 (q:Int)] u fun e w'=>e = .returned (.bool false)∧w'=u)) :
  Calls Tryz.prog 33 #[.string s,.int .i64 (k:Int)] w fun e w'=>e = .returned (.int .i64 (x:Int))∧w'=w:=by
 obtain ⟨np,yp⟩:=zp
 have ip:(p:Int)<(s.size:Int):=by omega
 have jp:(0:Int)≤(p:Int):=by omega
 have bmek1:((x:Int) == (k1:Int))=false:=by simpa using mek1
 have bmek:((x:Int) == (k:Int))=false:=by simpa using mek
 obtain ⟨nx,yx⟩:=zx
 have ix:(x:Int)<(s.size:Int):=by omega
 have jx:(0:Int)≤(x:Int):=by omega
 obtain ⟨nq,yq⟩:=zq
 have iq:(q:Int)<(s.size:Int):=by omega
 have jq:(0:Int)≤(q:Int):=by omega
 have bc43:(D == 43)=false:=by simpa using c43
 have bc45:(D == 45)=false:=by simpa using c45
 go_enter Tryz.func33,Tryz.ntmps33
 go_wp2_with fail
 refine (H0 _).mono ?_
 rintro e w1 ⟨rfl,rfl⟩
 clear H0
 go_wp2_with fail
 refine (B0 _).mono ?_
 rintro e w1 ⟨rfl,rfl⟩
 clear B0
 go_wp2_with fail
 refine (B1 _).mono ?_
 rintro e w1 ⟨rfl,rfl⟩
 clear B1
 go_wp2
 go_ret
 exact ⟨rfl,rfl⟩
set_option maxRecDepth 100000 in
set_option maxHeartbeats 1000000 in
theorem lFud1 (s:ByteArray) {k p p1 k1 x q r:Nat} {D:Int} (w:World) (H0:(∀ u,Calls Tryz.prog 53 #[.string s,.int .i64 (k:Int)] u fun e w'=>e = .returned (.int .i64 (p:Int))∧w'=u)) (kp:(k:Int)<(p:Int)) (zp:∃ h:p<s.size,((s[p]'h).toNat:Int)=46) (wp:IntKind.i64.wrap ((p:Int)+1)=(p1:Int)) (wk:IntKind.i64.wrap ((k:Int)+1)=(k1:Int)) (B0:(∀ u,Calls Tryz.prog 53 #[.string s,.int .i64 (p1:Int)] u fun e w'=>e = .returned (.int .i64 (x:Int))∧w'=u)) (mek1:¬ (x:Int)=(k1:Int)) (mek:¬ (x:Int)=(k:Int)) (zx:∃ h:x<s.size,((s[x]'h).toNat:Int)=69) (wx:IntKind.i64.wrap ((x:Int)+1)=(q:Int)) (zq:∃ h:q<s.size,((s[q]'h).toNat:Int)=D) (c43:¬ D=43) (c45:¬ D=45) (B1:(∀ u,Calls Tryz.prog 32 #[.string s,.int .i64 (q:Int)] u fun e w'=>e = .returned (.bool true)∧w'=u)) (B2:(∀ u,Calls Tryz.prog 53 #[.string s,.int .i64 (q:Int)] u fun e w'=>e = .returned (.int .i64 (r:Int))∧w'=u)) :
  Calls Tryz.prog 33 #[.string s,.int .i64 (k:Int)] w fun e w'=>e = .returned (.int .i64 (r:Int))∧w'=w:=by
 obtain ⟨np,yp⟩:=zp
 have ip:(p:Int)<(s.size:Int):=by omega
 have jp:(0:Int)≤(p:Int):=by omega
 have bmek1:((x:Int) == (k1:Int))=false:=by simpa using mek1
 have bmek:((x:Int) == (k:Int))=false:=by simpa using mek
 obtain ⟨nx,yx⟩:=zx
 have ix:(x:Int)<(s.size:Int):=by omega
 have jx:(0:Int)≤(x:Int):=by omega
 obtain ⟨nq,yq⟩:=zq
 have iq:(q:Int)<(s.size:Int):=by omega
 have jq:(0:Int)≤(q:Int):=by omega
 have bc43:(D == 43)=false:=by simpa using c43
 have bc45:(D == 45)=false:=by simpa using c45
 go_enter Tryz.func33,Tryz.ntmps33
 go_wp2_with fail
 refine (H0 _).mono ?_
 rintro e w1 ⟨rfl,rfl⟩
 clear H0
 go_wp2_with fail
 refine (B0 _).mono ?_
 rintro e w1 ⟨rfl,rfl⟩
 clear B0
 go_wp2_with fail
 refine (B1 _).mono ?_
 rintro e w1 ⟨rfl,rfl⟩
 clear B1
 go_wp2_with fail
 refine (B2 _).mono ?_
 rintro e w1 ⟨rfl,rfl⟩
 clear B2
 go_wp2
 go_ret
 exact ⟨rfl,rfl⟩
end Go.Proofs.YtgdilnljjgdinaaGreatDoor
