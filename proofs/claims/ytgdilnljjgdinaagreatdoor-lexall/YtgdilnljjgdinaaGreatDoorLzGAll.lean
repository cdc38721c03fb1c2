import Derived.Test.YtgdilnljjgdinaaGreatDoorLyWAll
import Derived.Test.YtgdilnljjgdinaaGreatDoorLzF
namespace Go.Proofs.YtgdilnljjgdinaaGreatDoor
open Go.RowKit Go.Shelf
set_option maxRecDepth 100000 in
set_option maxHeartbeats 1000000 in
theorem lGb (s:ByteArray) {k p:Nat} {C:Int} (w:World) (H0:(∀ u,Calls Tryz.prog 53 #[.string s,.int .i64 (k:Int)] u fun e w'=>e = .returned (.int .i64 (p:Int))∧w'=u)) (kp:(k:Int)<(p:Int)) (mpk:¬ (p:Int)=(k:Int)) (zp:∃ h:p<s.size,((s[p]'h).toNat:Int)=C) (c47:¬ C=47) (c46:¬ C=46) (c101:¬ C=101) (c69:¬ C=69) :
  Calls Tryz.prog 33 #[.string s,.int .i64 (k:Int)] w fun e w'=>e = .returned (.int .i64 (p:Int))∧w'=w:=by
 have bmpk:((p:Int) == (k:Int))=false:=by simpa using mpk
 obtain ⟨np,yp⟩:=zp
 have ip:(p:Int)<(s.size:Int):=by omega
 have jp:(0:Int)≤(p:Int):=by omega
 have bc47:(C == 47)=false:=by simpa using c47
 have bc46:(C == 46)=false:=by simpa using c46
 have bc101:(C == 101)=false:=by simpa using c101
 have bc69:(C == 69)=false:=by simpa using c69
 go_enter Tryz.func33,Tryz.ntmps33
 go_wp2_with fail
 refine (H0 _).mono ?_
 rintro e w1 ⟨rfl,rfl⟩
 clear H0
 go_wp2
 go_ret
 exact ⟨rfl,rfl⟩
set_option maxRecDepth 100000 in
set_option maxHeartbeats 1000000 in
theorem lGl0 (s:ByteArray) {k p q:Nat} (w:World) (H0:(∀ u,Calls Tryz.prog 53 #[.string s,.int .i64 (k:Int)] u fun e w'=>e = .returned (.int .i64 (p:Int))∧w'=u)) (kp:(k:Int)<(p:Int)) (mpk:¬ (p:Int)=(k:Int)) (zp:∃ h:p<s.size,((s[p]'h).toNat:Int)=101) (wp:IntKind.i64.wrap ((p:Int)+1)=(q:Int)) (gq:¬ (q:Int)<(s.size:Int)) (B1:(∀ u,Calls Tryz.prog 32 #[.string s,.int .i64 (q:Int)] u fun e w'=>e = .returned (.bool false)∧w'=u)) :
  Calls Tryz.prog 33 #[.string s,.int .i64 (k:Int)] w fun e w'=>e = .returned (.int .i64 (p:Int))∧w'=w:=by
 have bmpk:((p:Int) == (k:Int))=false:=by simpa using mpk
 obtain ⟨np,yp⟩:=zp
 have ip:(p:Int)<(s.size:Int):=by omega
 have jp:(0:Int)≤(p:Int):=by omega
 go_enter Tryz.func33,Tryz.ntmps33
 go_wp2_with fail
 refine (H0 _).mono ?_
 rintro e w1 ⟨rfl,rfl⟩
 clear H0
 go_wp2_with fail
 refine (B1 _).mono ?_
 rintro e w1 ⟨rfl,rfl⟩
 clear B1
 go_wp2
 go_ret
 exact ⟨rfl,rfl⟩
set_option maxRecDepth 100000 in
set_option maxHeartbeats 1000000 in
theorem lGlp0 (s:ByteArray) {k p q q2:Nat} (w:World) (H0:(∀ u,Calls Tryz.prog 53 #[.string s,.int .i64 (k:Int)] u fun e w'=>e = .returned (.int .i64 (p:Int))∧w'=u)) (kp:(k:Int)<(p:Int)) (mpk:¬ (p:Int)=(k:Int)) (zp:∃ h:p<s.size,((s[p]'h).toNat:Int)=101) (wp:IntKind.i64.wrap ((p:Int)+1)=(q:Int)) (zq:∃ h:q<s.size,((s[q]'h).toNat:Int)=43) (wq:IntKind.i64.wrap ((q:Int)+1)=(q2:Int)) (B1:(∀ u,Calls Tryz.prog 32 #[.string s,.int .i64 (q2:Int)] u fun e w'=>e = .returned (.bool false)∧w'=u)) :
  Calls Tryz.prog 33 #[.string s,.int .i64 (k:Int)] w fun e w'=>e = .returned (.int .i64 (p:Int))∧w'=w:=by
 have bmpk:((p:Int) == (k:Int))=false:=by simpa using mpk
 obtain ⟨np,yp⟩:=zp
 have ip:(p:Int)<(s.size:Int):=by omega
 have jp:(0:Int)≤(p:Int):=by omega
 obtain ⟨nq,yq⟩:=zq
 have iq:(q:Int)<(s.size:Int):=by omega
 have jq:(0:Int)≤(q:Int):=by omega
 go_enter Tryz.func33,Tryz.ntmps33
 go_wp2_with fail
 refine (H0 _).mono ?_
 rintro e w1 ⟨rfl,rfl⟩
 clear H0
 go_wp2_with fail
 refine (B1 _).mono ?_
 rintro e w1 ⟨rfl,rfl⟩
 clear B1
 go_wp2
 go_ret
 exact ⟨rfl,rfl⟩
set_option maxRecDepth 100000 in
set_option maxHeartbeats 1000000 in
theorem lGlp1 (s:ByteArray) {k p q q2 r:Nat} (w:World) (H0:(∀ u,Calls Tryz.prog 53 #[.string s,.int .i64 (k:Int)] u fun e w'=>e = .returned (.int .i64 (p:Int))∧w'=u)) (kp:(k:Int)<(p:Int)) (mpk:¬ (p:Int)=(k:Int)) (zp:∃ h:p<s.size,((s[p]'h).toNat:Int)=101) (wp:IntKind.i64.wrap ((p:Int)+1)=(q:Int)) (zq:∃ h:q<s.size,((s[q]'h).toNat:Int)=43) (wq:IntKind.i64.wrap ((q:Int)+1)=(q2:Int)) (B1:(∀ u,Calls Tryz.prog 32 #[.string s,.int .i64 (q2:Int)] u fun e w'=>e = .returned (.bool true)∧w'=u)) (B2:(∀ u,Calls Tryz.prog 53 #[.string s,.int .i64 (q2:Int)] u fun e w'=>e = .returned (.int .i64 (r:Int))∧w'=u)) :
  Calls Tryz.prog 33 #[.string s,.int .i64 (k:Int)] w fun e w'=>e = .returned (.int .i64 (r:Int))∧w'=w:=by
 have bmpk:((p:Int) == (k:Int))=false:=by simpa using mpk
 obtain ⟨np,yp⟩:=zp
 have ip:(p:Int)<(s.size:Int):=by omega
 have jp:(0:Int)≤(p:Int):=by omega
 obtain ⟨nq,yq⟩:=zq
 have iq:(q:Int)<(s.size:Int):=by omega
 have jq:(0:Int)≤(q:Int):=by omega
 go_enter Tryz.func33,Tryz.ntmps33
 go_wp2_with fail
 refine (H0 _).mono ?_
 rintro e w1 ⟨rfl,rfl⟩
 clear H0
 go_wp2_with fail
 refine (B1 _).mono ?_
 rintro e w1 ⟨rfl,rfl⟩
 clear B1
 go_wp2_with fail
 refine (B2 _).mono ?_
 rintro e w1 ⟨rfl,rfl⟩
 clear B2
 go_wp2
 go_ret
 exact ⟨rfl,rfl⟩
set_option maxRecDepth 100000 in
set_option maxHeartbeats 1000000 in
theorem lGlm0 (s:ByteArray) {k p q q2:Nat} (w:World) (H0:(∀ u,Calls Tryz.prog 53 #[.string s,.int .i64 (k:Int)] u fun e w'=>e = .returned (.int .i64 (p:Int))∧w'=u)) (kp:(k:Int)<(p:Int)) (mpk:¬ (p:Int)=(k:Int)) (zp:∃ h:p<s.size,((s[p]'h).toNat:Int)=101) (wp:IntKind.i64.wrap ((p:Int)+1)=(q:Int)) (zq:∃ h:q<s.size,((s[q]'h).toNat:Int)=45) (wq:IntKind.i64.wrap ((q:Int)+1)=(q2:Int)) (B1:(∀ u,Calls Tryz.prog 32 #[.string s,.int .i64 (q2:Int)] u fun e w'=>e = .returned (.bool false)∧w'=u)) :
  Calls Tryz.prog 33 #[.string s,.int .i64 (k:Int)] w fun e w'=>e = .returned (.int .i64 (p:Int))∧w'=w:=by
 have bmpk:((p:Int) == (k:Int))=false:=by simpa using mpk
 obtain ⟨np,yp⟩:=zp
 have ip:(p:Int)<(s.size:Int):=by omega
 have jp:(0:Int)≤(p:Int):=by omega
 obtain ⟨nq,yq⟩:=zq
 have iq:(q:Int)<(s.size:Int):=by omega
 have jq:(0:Int)≤(q:Int):=by omega
 go_enter Tryz.func33,Tryz.ntmps33
 go_wp2_with fail
 refine (H0 _).mono ?_
 rintro e w1 ⟨rfl,rfl⟩
 clear H0
 go_wp2_with fail
 refine (B1 _).mono ?_
 rintro e w1 ⟨rfl,rfl⟩
 clear B1
 go_wp2
 go_ret
 exact ⟨rfl,rfl⟩
set_option maxRecDepth 100000 in
set_option maxHeartbeats 1000000 in
theorem lGlm1 (s:ByteArray) {k p q q2 r:Nat} (w:World) (H0:(∀ u,Calls Tryz.prog 53 #[.string s,.int .i64 (k:Int)] u fun e w'=>e = .returned (.int .i64 (p:Int))∧w'=u)) (kp:(k:Int)<(p:Int)) (mpk:¬ (p:Int)=(k:Int)) (zp:∃ h:p<s.size,((s[p]'h).toNat:Int)=101) (wp:IntKind.i64.wrap ((p:Int)+1)=(q:Int)) (zq:∃ h:q<s.size,((s[q]'h).toNat:Int)=45) (wq:IntKind.i64.wrap ((q:Int)+1)=(q2:Int)) (B1:(∀ u,Calls Tryz.prog 32 #[.string s,.int .i64 (q2:Int)] u fun e w'=>e = .returned (.bool true)∧w'=u)) (B2:(∀ u,Calls Tryz.prog 53 #[.string s,.int .i64 (q2:Int)] u fun e w'=>e = .returned (.int .i64 (r:Int))∧w'=u)) :
  Calls Tryz.prog 33 #[.string s,.int .i64 (k:Int)] w fun e w'=>e = .returned (.int .i64 (r:Int))∧w'=w:=by
 have bmpk:((p:Int) == (k:Int))=false:=by simpa using mpk
 obtain ⟨np,yp⟩:=zp
 have ip:(p:Int)<(s.size:Int):=by omega
 have jp:(0:Int)≤(p:Int):=by omega
 obtain ⟨nq,yq⟩:=zq
 have iq:(q:Int)<(s.size:Int):=by omega
 have jq:(0:Int)≤(q:Int):=by omega
 go_enter Tryz.func33,Tryz.ntmps33
 go_wp2_with fail
 refine (H0 _).mono ?_
 rintro e w1 ⟨rfl,rfl⟩
 clear H0
 go_wp2_with fail
 refine (B1 _).mono ?_
 rintro e w1 ⟨rfl,rfl⟩
 clear B1
 go_wp2_with fail
 refine (B2 _).mono ?_
 rintro e w1 ⟨rfl,rfl⟩
 clear B2
 go_wp2
 go_ret
 exact ⟨rfl,rfl⟩
set_option maxRecDepth 100000 in
set_option maxHeartbeats 1000000 in
theorem lGld0 (s:ByteArray) {k p q:Nat} {D:Int} (w:World) (H0:(∀ u,Calls Tryz.prog 53 #[.string s,.int .i64 (k:Int)] u fun e w'=>e = .returned (.int .i64 (p:Int))∧w'=u)) (kp:(k:Int)<(p:Int)) (mpk:¬ (p:Int)=(k:Int)) (zp:∃ h:p<s.size,((s[p]'h).toNat:Int)=101) (wp:IntKind.i64.wrap ((p:Int)+1)=(q:Int)) (zq:∃ h:q<s.size,((s[q]'h).toNat:Int)=D) (c43:¬ D=43) (c45:¬ D=45) (B1:(∀ u,Calls Tryz.prog 32 #[.string s,.int .i64 (q:Int)] u fun e w'=>e = .returned (.bool false)∧w'=u)) :
  Calls Tryz.prog 33 #[.string s,.int .i64 (k:Int)] w fun e w'=>e = .returned (.int .i64 (p:Int))∧w'=w:=by
 have bmpk:((p:Int) == (k:Int))=false:=by simpa using mpk
 obtain ⟨np,yp⟩:=zp
 have ip:(p:Int)<(s.size:Int):=by omega
 have jp:(0:Int)≤(p:Int):=by omega
 obtain ⟨nq,yq⟩:=zq
 have iq:(q:Int)<(s.size:Int):=by omega
 have jq:(0:Int)≤(q:Int):=by omega
 have bc43:(D == 43)=false:=by simpa using c43
 have bc45:(D == 45)=false:=by simpa using c45
 go_enter Tryz.func33,Tryz.ntmps33
 go_wp2_with fail
 refine (H0 _).mono ?_
 rintro e w1 ⟨rfl,rfl⟩
 clear H0
 go_wp2_with fail
 refine (B1 _).mono ?_
 rintro e w1 ⟨rfl,rfl⟩
 clear B1
 go_wp2
 go_ret
 exact ⟨rfl,rfl⟩
set_option maxRecDepth 100000 in
set_option maxHeartbeats 1000000 in
theorem lGld1 (s:ByteArray) {k p q r:Nat} {D:Int} (w:World) (H0:(∀ u,Calls Tryz.prog 53 #[.string s,.int .i64 (k:Int)] u fun e w'=>e = .returned (.int .i64 (p:Int))∧w'=u)) (kp:(k:Int)<(p:Int)) (mpk:¬ (p:Int)=(k:Int)) (zp:∃ h:p<s.size,((s[p]'h).toNat:Int)=101) (wp:IntKind.i64.wrap ((p:Int)+1)=(q:Int)) (zq:∃ h:q<s.size,((s[q]'h).toNat:Int)=D) (c43:¬ D=43) (c45:¬ D=45) (B1:(∀ u,Calls Tryz.prog 32 #[.string s,.int .i64 (q:Int)] u fun e w'=>e = .returned (.bool true)∧w'=u)) (B2:(∀ u,Calls Tryz.prog 53 #[.string s,.int .i64 (q:Int)] u fun e w'=>e = .returned (.int .i64 (r:Int))∧w'=u)) :
  Calls Tryz.prog 33 #[.string s,.int .i64 (k:Int)] w fun e w'=>e = .returned (.int .i64 (r:Int))∧w'=w:=by
 have bmpk:((p:Int) == (k:Int))=false:=by simpa using mpk
 obtain ⟨np,yp⟩:=zp
 have ip:(p:Int)<(s.size:Int):=by omega
 have jp:(0:Int)≤(p:Int):=by omega
 obtain ⟨nq,yq⟩:=zq
 have iq:(q:Int)<(s.size:Int):=by omega
 have jq:(0:Int)≤(q:Int):=by omega
 have bc43:(D == 43)=false:=by simpa using c43
 have bc45:(D == 45)=false:=by simpa using c45
 go_enter Tryz.func33,Tryz.ntmps33
 go_wp2_with fail
 refine (H0 _).mono ?_
 rintro e w1 ⟨rfl,rfl⟩
 clear H0
 go_wp2_with fail
 refine (B1 _).mono ?_
 rintro e w1 ⟨rfl,rfl⟩
 clear B1
 go_wp2_with fail
 refine (B2 _).mono ?_
 rintro e w1 ⟨rfl,rfl⟩
 clear B2
 go_wp2
 go_ret
 exact ⟨rfl,rfl⟩
set_option maxRecDepth 100000 in
set_option maxHeartbeats 1000000 in
theorem lGu0 (s:ByteArray) {k p q:Nat} (w:World) (H0:(∀ u,Calls Tryz.prog 53 #[.string s,.int .i64 (k:Int)] u fun e w'=>e = .returned (.int .i64 (p:Int))∧w'=u)) (kp:(k:Int)<(p:Int)) (mpk:¬ (p:Int)=(k:Int)) (zp:∃ h:p<s.size,((s[p]'h).toNat:Int)=69) (wp:IntKind.i64.wrap ((p:Int)+1)=(q:Int)) (gq:¬ (q:Int)<(s.size:Int)) (B1:(∀ u,Calls Tryz.prog 32 #[.string s,.int .i64 (q:Int)] u fun e w'=>e = .returned (.bool false)∧w'=u)) :
  Calls Tryz.prog 33 #[.string s,.int .i64 (k:Int)] w fun e w'=>e = .returned (.int .i64 (p:Int))∧w'=w:=by
 have bmpk:((p:Int) == (k:Int))=false:=by simpa using mpk
 obtain ⟨np,yp⟩:=zp
 have ip:(p:Int)<(s.size:Int):=by omega
 have jp:(0:Int)≤(p:Int):=by omega
 go_enter Tryz.func33,Tryz.ntmps33
 go_wp2_with fail
 refine (H0 _).mono ?_
 rintro e w1 ⟨rfl,rfl⟩
 clear H0
 go_wp2_with fail
 refine (B1 _).mono ?_
 rintro e w1 ⟨rfl,rfl⟩
 clear B1
 go_wp2
 go_ret
 exact ⟨rfl,rfl⟩
set_option maxRecDepth 100000 in
set_option maxHeartbeats 1000000 in
theorem lGup0 (s:ByteArray) {k p q q2:Nat} (w:World) (H0:(∀ u,Calls Tryz.prog 53 #[.string s,.int .i64 (k:Int)] u fun e w'=>e = .returned (.int .i64 (p:Int))∧w'=u)) (kp:(k:Int)<(p:Int)) (mpk:¬ (p:Int)=(k:Int)) (zp:∃ h:p<s.size,((s[p]'h).toNat:Int)=69) (wp:IntKind.i64.wrap ((p:Int)+1)=(q:Int)) (zq:∃ h:q<s.size,((s[q]'h).toNat:Int)=43) (wq:IntKind.i64.wrap ((q:Int)+1)=(q2:Int)) (B1:(∀ u,Calls Tryz.prog 32 #[.string s,.int .i64 (q2:Int)] u fun e w'=>e = .returned (.bool false)∧w'=u)) :
  Calls Tryz.prog 33 #[.string s,.int .i64 (k:Int)] w fun e w'=>e = .returned (.int .i64 (p:Int))∧w'=w:=by
 have bmpk:((p:Int) == (k:Int))=false:=by simpa using mpk
 obtain ⟨np,yp⟩:=zp
 have ip:(p:Int)<(s.size:Int):=by omega
 have jp:(0:Int)≤(p:Int):=by omega
 obtain ⟨nq,yq⟩:=zq
 have iq:(q:Int)<(s.size:Int):=by omega
 have jq:(0:Int)≤(q:Int):=by omega
 go_enter Tryz.func33,Tryz.ntmps33
 go_wp2_with fail
 refine (H0 _).mono ?_
 rintro e w1 ⟨rfl,rfl⟩
 clear H0
 go_wp2_with fail
 refine (B1 _).mono ?_
 rintro e w1 ⟨rfl,rfl⟩
 clear B1
 go_wp2
 go_ret
 exact ⟨rfl,rfl⟩
set_option maxRecDepth 100000 in
set_option maxHeartbeats 1000000 in
theorem lGup1 (s:ByteArray) {k p q q2 r:Nat} (w:World) (H0:(∀ u,Calls Tryz.prog 53 #[.string s,.int .i64 (k:Int)] u fun e w'=>e = .returned (.int .i64 (p:Int))∧w'=u)) (kp:(k:Int)<(p:Int)) (mpk:¬ (p:Int)=(k:Int)) (zp:∃ h:p<s.size,((s[p]'h).toNat:Int)=69) (wp:IntKind.i64.wrap ((p:Int)+1)=(q:Int)) (zq:∃ h:q<s.size,((s[q]'h).toNat:Int)=43) (wq:IntKind.i64.wrap ((q:Int)+1)=(q2:Int)) (B1:(∀ u,Calls Tryz.prog 32 #[.string s,.int .i64 (q2:Int)] u fun e w'=>e = .returned (.bool true)∧w'=u)) (B2:(∀ u,Calls Tryz.prog 53 #[.string s,.int .i64 (q2:Int)] u fun e w'=>e = .returned (.int .i64 (r:Int))∧w'=u)) :
  Calls Tryz.prog 33 #[.string s,.int .i64 (k:Int)] w fun e w'=>e = .returned (.int .i64 (r:Int))∧w'=w:=by
 have bmpk:((p:Int) == (k:Int))=false:=by simpa using mpk
 obtain ⟨np,yp⟩:=zp
 have ip:(p:Int)<(s.size:Int):=by omega
 have jp:(0:Int)≤(p:Int):=by omega
 obtain ⟨nq,yq⟩:=zq
 have iq:(q:Int)<(s.size:Int):=by omega
 have jq:(0:Int)≤(q:Int):=by omega
 go_enter Tryz.func33,Tryz.ntmps33
 go_wp2_with fail
 refine (H0 _).mono ?_
 rintro e w1 ⟨rfl,rfl⟩
 clear H0
 go_wp2_with fail
 refine (B1 _).mono ?_
 rintro e w1 ⟨rfl,rfl⟩
 clear B1
 go_wp2_with fail
 refine (B2 _).mono ?_
 rintro e w1 ⟨rfl,rfl⟩
 clear B2
 go_wp2
 go_ret
 exact ⟨rfl,rfl⟩
set_option maxRecDepth 100000 in
set_option maxHeartbeats 1000000 in
theorem lGum0 (s:ByteArray) {k p q q2:Nat} (w:World) (H0:(∀ u,Calls Tryz.prog 53 #[.string s,.int .i64 (k:Int)] u fun e w'=>e = .returned (.int .i64 (p:Int))∧w'=u)) (kp:(k:Int)<(p:Int)) (mpk:¬ (p:Int)=(k:Int)) (zp:∃ h:p<s.size,((s[p]'h).toNat:Int)=69) (wp:IntKind.i64.wrap ((p:Int)+1)=(q:Int)) (zq:∃ h:q<s.size,((s[q]'h).toNat:Int)=45) (wq:IntKind.i64.wrap ((q:Int)+1)=(q2:Int)) (B1:(∀ u,Calls Tryz.prog 32 #[.string s,.int .i64 (q2:Int)] u fun e w'=>e = .returned (.bool false)∧w'=u)) :
  Calls Tryz.prog 33 #[.string s,.int .i64 (k:Int)] w fun e w'=>e = .returned (.int .i64 (p:Int))∧w'=w:=by
 have bmpk:((p:Int) == (k:Int))=false:=by simpa using mpk
 obtain ⟨np,yp⟩:=zp
 have ip:(p:Int)<(s.size:Int):=by omega
 have jp:(0:Int)≤(p:Int):=by omega
 obtain ⟨nq,yq⟩:=zq
 have iq:(q:Int)<(s.size:Int):=by omega
 have jq:(0:Int)≤(q:Int):=by omega
 go_enter Tryz.func33,Tryz.ntmps33
 go_wp2_with fail
 refine (H0 _).mono ?_
 rintro e w1 ⟨rfl,rfl⟩
 clear H0
 go_wp2_with fail
 refine (B1 _).mono ?_
 rintro e w1 ⟨rfl,rfl⟩
 clear B1
 go_wp2
 go_ret
 exact ⟨rfl,rfl⟩
set_option maxRecDepth 100000 in
set_option maxHeartbeats 1000000 in
theorem lGum1 (s:ByteArray) {k p q q2 r:Nat} (w:World) (H0:(∀ u,Calls Tryz.prog 53 #[.string s,.int .i64 (k:Int)] u fun e w'=>e = .returned (.int .i64 (p:Int))∧w'=u)) (kp:(k:Int)<(p:Int)) (mpk:¬ (p:Int)=(k:Int)) (zp:∃ h:p<s.size,((s[p]'h).toNat:Int)=69) (wp:IntKind.i64.wrap ((p:Int)+1)=(q:Int)) (zq:∃ h:q<s.size,((s[q]'h).toNat:Int)=45) (wq:IntKind.i64.wrap ((q:Int)+1)=(q2:Int)) (B1:(∀ u,Calls Tryz.prog 32 #[.string s,.int .i64 (q2:Int)] u fun e w'=>e = .returned (.bool true)∧w'=u)) (B2:(∀ u,Calls Tryz.prog 53 #[.string s,.int .i64 (q2:Int)] u fun e w'=>e = .returned (.int .i64 (r:Int))∧w'=u)) :
  Calls Tryz.prog 33 #[.string s,.int .i64 (k:Int)] w fun e w'=>e = .returned (.int .i64 (r:Int))∧w'=w:=by
 have bmpk:((p:Int) == (k:Int))=false:=by simpa using mpk
 obtain ⟨np,yp⟩:=zp
 have ip:(p:Int)<(s.size:Int):=by omega
 have jp:(0:Int)≤(p:Int):=by omega
 obtain ⟨nq,yq⟩:=zq
 have iq:(q:Int)<(s.size:Int):=by omega
 have jq:(0:Int)≤(q:Int):=by omega
 go_enter Tryz.func33,Tryz.ntmps33
 go_wp2_with fail
 refine (H0 _).mono ?_
 rintro e w1 ⟨rfl,rfl⟩
 clear H0
 go_wp2_with fail
 refine (B1 _).mono ?_
 rintro e w1 ⟨rfl,rfl⟩
 clear B1
 go_wp2_with fail
 refine (B2 _).mono ?_
 rintro e w1 ⟨rfl,rfl⟩
 clear B2
 go_wp2
 go_ret
 exact ⟨rfl,rfl⟩
set_option maxRecDepth 100000 in
set_option maxHeartbeats 1000000 in
theorem lGud0 (s:ByteArray) {k p q:Nat} {D:Int} (w:World) (H0:(∀ u,Calls Tryz.prog 53 #[.string s,.int .i64 (k:Int)] u fun e w'=>e = .returned (.int .i64 (p:Int))∧w'=u)) (kp:(k:Int)<(p:Int)) (mpk:¬ (p:Int)=(k:Int)) (zp:∃ h:p<s.size,((s[p]'h).toNat:Int)=69) (wp:IntKind.i64.wrap ((p:Int)+1)=(q:Int)) (zq:∃ h:q<s.size,((s[q]'h).toNat:Int)=D) (c43:¬ D=43) (c45:¬ D=45) (B1:(∀ u,Calls Tryz.prog 32 #[.string s,.int .i64 (q:Int)] u fun e w'=>e = .returned (.bool false)∧w'=u)) :
  Calls Tryz.prog 33 #[.string s,.int .i64 (k:Int)] w fun e w'=>e = .returned (.int .i64 (p:Int))∧w'=w:=by
 have bmpk:((p:Int) == (k:Int))=false:=by simpa using mpk
 obtain ⟨np,yp⟩:=zp
 have ip:(p:Int)<(s.size:Int):=by omega
 have jp:(0:Int)≤(p:Int):=by omega
 obtain ⟨nq,yq⟩:=zq
 have iq:(q:Int)<(s.size:Int):=by omega
 have jq:(0:Int)≤(q:Int):=by omega
 have bc43:(D == 43)=false:=by simpa using c43
 have bc45:(D == 45)=false:=by simpa using c45
 go_enter Tryz.func33,Tryz.ntmps33
 go_wp2_with fail
 refine (H0 _).mono ?_
 rintro e w1 ⟨rfl,rfl⟩
 clear H0
 go_wp2_with fail
 refine (B1 _).mono ?_
 rintro e w1 ⟨rfl,rfl⟩
 clear B1
 go_wp2
 go_ret
 exact ⟨rfl,rfl⟩
set_option maxRecDepth 100000 in
set_option maxHeartbeats 1000000 in
theorem lGud1 (s:ByteArray) {k p q r:Nat} {D:Int} (w:World) (H0:(∀ u,Calls Tryz.prog 53 #[.string s,.int .i64 (k:Int)] u fun e w'=>e = .returned (.int .i64 (p:Int))∧w'=u)) (kp:(k:Int)<(p:Int)) (mpk:¬ (p:Int)=(k:Int)) (zp:∃ h:p<s.size,((s[p]'h).toNat:Int)=69) (wp:IntKind.i64.wrap ((p:Int)+1)=(q:Int)) (zq:∃ h:q<s.size,((s[q]'h).toNat:Int)=D) (c43:¬ D=43) (c45:¬ D=45) (B1:(∀ u,Calls Tryz.prog 32 #[.string s,.int .i64 (q:Int)] u fun e w'=>e = .returned (.bool true)∧w'=u)) (B2:(∀ u,Calls Tryz.prog 53 #[.string s,.int .i64 (q:Int)] u fun e w'=>e = .returned (.int .i64 (r:Int))∧w'=u)) :
  Calls Tryz.prog 33 #[.string s,.int .i64 (k:Int)] w fun e w'=>e = .returned (.int .i64 (r:Int))∧w'=w:=by
 have bmpk:((p:Int) == (k:Int))=false:=by simpa using mpk
 obtain ⟨np,yp⟩:=zp
 have ip:(p:Int)<(s.size:Int):=by omega
 have jp:(0:Int)≤(p:Int):=by omega
 obtain ⟨nq,yq⟩:=zq
 have iq:(q:Int)<(s.size:Int):=by omega
 have jq:(0:Int)≤(q:Int):=by omega
 have bc43:(D == 43)=false:=by simpa using c43
 have bc45:(D == 45)=false:=by simpa using c45
 go_enter Tryz.func33,Tryz.ntmps33
 go_wp2_with fail
 refine (H0 _).mono ?_
 rintro e w1 ⟨rfl,rfl⟩
 clear H0
 go_wp2_with fail
 refine (B1 _).mono ?_
 rintro e w1 ⟨rfl,rfl⟩
 clear B1
 go_wp2_with fail
 refine (B2 _).mono ?_
 rintro e w1 ⟨rfl,rfl⟩
 clear B2
 go_wp2
 go_ret
 exact ⟨rfl,rfl⟩
end Go.Proofs.YtgdilnljjgdinaaGreatDoor
namespace Go.Proofs.YtgdilnljjgdinaaGreatDoor
open Go.RowKit Go.Shelf
theorem exC_e {c:UInt8} {l:List UInt8} (h:c=101∨c=69):exC (c::l)=if 0<ldL l dgB then 1+ldL l dgB else exS l:=by simp only [exC];rw [if_pos h]
theorem exC_o {c:UInt8} {l:List UInt8} (h:¬ (c=101∨c=69)):exC (c::l)=0:=by simp only [exC];rw [if_neg h]
theorem exS_s {c:UInt8} {l:List UInt8} (h:c=43∨c=45) (h2:0<ldL l dgB):exS (c::l)=2+ldL l dgB:=by simp only [exS];rw [if_pos ⟨h,h2⟩]
theorem exS_n {c:UInt8} {l:List UInt8} (h:¬ ((c=43∨c=45)∧0<ldL l dgB)):exS (c::l)=0:=by simp only [exS];rw [if_neg h]
theorem pf1 (m c:UInt8) (l:List UInt8):([m]:List UInt8).isPrefixOf (c::l)=(m == c):=by simp [List.isPrefixOf]
theorem lit_nil {L:List UInt8} (h:L.drop (ldL L dgB)=[]):litN L=ldL L dgB:=by
 unfold litN
 rw [h,lb0,if_neg (by omega),if_neg (by decide),exN_C];rfl
theorem lit_sl {L t:List UInt8} (h:L.drop (ldL L dgB)=47::t):litN L=if 0<ldL t dgB then ldL L dgB+1+ldL t dgB else ldL L dgB:=by
 unfold litN
 rw [h,lb1,if_pos rfl,pf1]
 by_cases h2:0<ldL t dgB
 ·rw [if_pos h2,if_pos h2]
 ·rw [if_neg h2,if_neg h2,if_neg (by decide),exN_C,exC_o (by decide)];rfl
theorem lit_dot {L t:List UInt8} (h:L.drop (ldL L dgB)=46::t):litN L=if ldL L dgB+ldL t dgB=0 then 0 else ldL L dgB+(1+ldL t dgB)+exC (t.drop (ldL t dgB)):=by
 have h2:L.drop (ldL L dgB+(1+ldL t dgB))=t.drop (ldL t dgB):=by rw [← List.drop_drop,h,Nat.add_comm 1,List.drop_succ_cons]
 unfold litN
 rw [h,lb1 47,if_neg (show ¬ (46:UInt8)=47 by decide),if_neg (Nat.lt_irrefl 0),pf1,if_pos (show ((46:UInt8) == 46)=true by decide),lb1 46,if_pos rfl,h2,exN_C]
theorem lit_else {L t:List UInt8} {c:UInt8} (h:L.drop (ldL L dgB)=c::t) (h1:¬ c=47) (h2:¬ c=46):litN L=ldL L dgB+exC (c::t):=by
 unfold litN
 rw [h,lb1,if_neg h1,if_neg (by omega),pf1,if_neg (by simp;exact fun e=>h2 e.symm),exN_C]
theorem dbT {s:ByteArray} {x:Nat} (h:0<ldL (s.data.toList.drop x) dgB):(∀ u,Calls Tryz.prog 32 #[.string s,.int .i64 ((x:Nat):Int)] u fun e w'=>e = .returned (.bool true)∧w'=u):=fun u=>by
 have:=digitA s x u;rwa [decide_eq_true h] at this
theorem dbF {s:ByteArray} {x:Nat} (h:¬ 0<ldL (s.data.toList.drop x) dgB):(∀ u,Calls Tryz.prog 32 #[.string s,.int .i64 ((x:Nat):Int)] u fun e w'=>e = .returned (.bool false)∧w'=u):=fun u=>by
 have:=digitA s x u;rwa [decide_eq_false h] at this
theorem dgT {s:ByteArray} {x:Nat} (h:x≤s.size) (hs:s.size≤100000000):(∀ u,Calls Tryz.prog 53 #[.string s,.int .i64 ((x:Nat):Int)] u fun e w'=>e = .returned (.int .i64 ((x+ldL (s.data.toList.drop x) dgB:Nat):Int))∧w'=u):=fun u=>digitsD s x u h (by omega)
theorem tail_pick {s:ByteArray} {x:Nat} {P:Nat→Prop} (hs:s.size≤100000000)
  (La:¬ ((x:Nat):Int)<(s.size:Int)→P x)
  (Lb:∀ C:Int,(∃ h:x<s.size,((s[x]'h).toNat:Int)=C)→¬ C=101→¬ C=69→P x)
  (Ll0:∀ q:Nat,(∃ h:x<s.size,((s[x]'h).toNat:Int)=101)→IntKind.i64.wrap (((x:Nat):Int)+1)=((q:Nat):Int)→¬ ((q:Nat):Int)<(s.size:Int)→(∀ u,Calls Tryz.prog 32 #[.string s,.int .i64 ((q:Nat):Int)] u fun e w'=>e = .returned (.bool false)∧w'=u)→P x)
  (Llp0:∀ q q2:Nat,(∃ h:x<s.size,((s[x]'h).toNat:Int)=101)→IntKind.i64.wrap (((x:Nat):Int)+1)=((q:Nat):Int)→(∃ h:q<s.size,((s[q]'h).toNat:Int)=43)→IntKind.i64.wrap (((q:Nat):Int)+1)=((q2:Nat):Int)→(∀ u,Calls Tryz.prog 32 #[.string s,.int .i64 ((q2:Nat):Int)] u fun e w'=>e = .returned (.bool false)∧w'=u)→P x)
  (Llp1:∀ q q2 r:Nat,(∃ h:x<s.size,((s[x]'h).toNat:Int)=101)→IntKind.i64.wrap (((x:Nat):Int)+1)=((q:Nat):Int)→(∃ h:q<s.size,((s[q]'h).toNat:Int)=43)→IntKind.i64.wrap (((q:Nat):Int)+1)=((q2:Nat):Int)→(∀ u,Calls Tryz.prog 32 #[.string s,.int .i64 ((q2:Nat):Int)] u fun e w'=>e = .returned (.bool true)∧w'=u)→(∀ u,Calls Tryz.prog 53 #[.string s,.int .i64 ((q2:Nat):Int)] u fun e w'=>e = .returned (.int .i64 ((r:Nat):Int))∧w'=u)→P r)
  (Llm0:∀ q q2:Nat,(∃ h:x<s.size,((s[x]'h).toNat:Int)=101)→IntKind.i64.wrap (((x:Nat):Int)+1)=((q:Nat):Int)→(∃ h:q<s.size,((s[q]'h).toNat:Int)=45)→IntKind.i64.wrap (((q:Nat):Int)+1)=((q2:Nat):Int)→(∀ u,Calls Tryz.prog 32 #[.string s,.int .i64 ((q2:Nat):Int)] u fun e w'=>e = .returned (.bool false)∧w'=u)→P x)
  (Llm1:∀ q q2 r:Nat,(∃ h:x<s.size,((s[x]'h).toNat:Int)=101)→IntKind.i64.wrap (((x:Nat):Int)+1)=((q:Nat):Int)→(∃ h:q<s.size,((s[q]'h).toNat:Int)=45)→IntKind.i64.wrap (((q:Nat):Int)+1)=((q2:Nat):Int)→(∀ u,Calls Tryz.prog 32 #[.string s,.int .i64 ((q2:Nat):Int)] u fun e w'=>e = .returned (.bool true)∧w'=u)→(∀ u,Calls Tryz.prog 53 #[.string s,.int .i64 ((q2:Nat):Int)] u fun e w'=>e = .returned (.int .i64 ((r:Nat):Int))∧w'=u)→P r)
  (Lld0:∀ (q:Nat) (D:Int),(∃ h:x<s.size,((s[x]'h).toNat:Int)=101)→IntKind.i64.wrap (((x:Nat):Int)+1)=((q:Nat):Int)→(∃ h:q<s.size,((s[q]'h).toNat:Int)=D)→¬ D=43→¬ D=45→(∀ u,Calls Tryz.prog 32 #[.string s,.int .i64 ((q:Nat):Int)] u fun e w'=>e = .returned (.bool false)∧w'=u)→P x)
  (Lld1:∀ (q r:Nat) (D:Int),(∃ h:x<s.size,((s[x]'h).toNat:Int)=101)→IntKind.i64.wrap (((x:Nat):Int)+1)=((q:Nat):Int)→(∃ h:q<s.size,((s[q]'h).toNat:Int)=D)→¬ D=43→¬ D=45→(∀ u,Calls Tryz.prog 32 #[.string s,.int .i64 ((q:Nat):Int)] u fun e w'=>e = .returned (.bool true)∧w'=u)→(∀ u,Calls Tryz.prog 53 #[.string s,.int .i64 ((q:Nat):Int)] u fun e w'=>e = .returned (.int .i64 ((r:Nat):Int))∧w'=u)→P r)
  (Lu0:∀ q:Nat,(∃ h:x<s.size,((s[x]'h).toNat:Int)=69)→IntKind.i64.wrap (((x:Nat):Int)+1)=((q:Nat):Int)→¬ ((q:Nat):Int)<(s.size:Int)→(∀ u,Calls Tryz.prog 32 #[.string s,.int .i64 ((q:Nat):Int)] u fun e w'=>e = .returned (.bool false)∧w'=u)→P x)
  (Lup0:∀ q q2:Nat,(∃ h:x<s.size,((s[x]'h).toNat:Int)=69)→IntKind.i64.wrap (((x:Nat):Int)+1)=((q:Nat):Int)→(∃ h:q<s.size,((s[q]'h).toNat:Int)=43)→IntKind.i64.wrap (((q:Nat):Int)+1)=((q2:Nat):Int)→(∀ u,Calls Tryz.prog 32 #[.string s,.int .i64 ((q2:Nat):Int)] u fun e w'=>e = .returned (.bool false)∧w'=u)→P x)
  (Lup1:∀ q q2 r:Nat,(∃ h:x<s.size,((s[x]'h).toNat:Int)=69)→IntKind.i64.wrap (((x:Nat):Int)+1)=((q:Nat):Int)→(∃ h:q<s.size,((s[q]'h).toNat:Int)=43)→IntKind.i64.wrap (((q:Nat):Int)+1)=((q2:Nat):Int)→(∀ u,Calls Tryz.prog 32 #[.string s,.int .i64 ((q2:Nat):Int)] u fun e w'=>e = .returned (.bool true)∧w'=u)→(∀ u,Calls Tryz.prog 53 #[.string s,.int .i64 ((q2:Nat):Int)] u fun e w'=>e = .returned (.int .i64 ((r:Nat):Int))∧w'=u)→P r)
  (Lum0:∀ q q2:Nat,(∃ h:x<s.size,((s[x]'h).toNat:Int)=69)→IntKind.i64.wrap (((x:Nat):Int)+1)=((q:Nat):Int)→(∃ h:q<s.size,((s[q]'h).toNat:Int)=45)→IntKind.i64.wrap (((q:Nat):Int)+1)=((q2:Nat):Int)→(∀ u,Calls Tryz.prog 32 #[.string s,.int .i64 ((q2:Nat):Int)] u fun e w'=>e = .returned (.bool false)∧w'=u)→P x)
  (Lum1:∀ q q2 r:Nat,(∃ h:x<s.size,((s[x]'h).toNat:Int)=69)→IntKind.i64.wrap (((x:Nat):Int)+1)=((q:Nat):Int)→(∃ h:q<s.size,((s[q]'h).toNat:Int)=45)→IntKind.i64.wrap (((q:Nat):Int)+1)=((q2:Nat):Int)→(∀ u,Calls Tryz.prog 32 #[.string s,.int .i64 ((q2:Nat):Int)] u fun e w'=>e = .returned (.bool true)∧w'=u)→(∀ u,Calls Tryz.prog 53 #[.string s,.int .i64 ((q2:Nat):Int)] u fun e w'=>e = .returned (.int .i64 ((r:Nat):Int))∧w'=u)→P r)
  (Lud0:∀ (q:Nat) (D:Int),(∃ h:x<s.size,((s[x]'h).toNat:Int)=69)→IntKind.i64.wrap (((x:Nat):Int)+1)=((q:Nat):Int)→(∃ h:q<s.size,((s[q]'h).toNat:Int)=D)→¬ D=43→¬ D=45→(∀ u,Calls Tryz.prog 32 #[.string s,.int .i64 ((q:Nat):Int)] u fun e w'=>e = .returned (.bool false)∧w'=u)→P x)
  (Lud1:∀ (q r:Nat) (D:Int),(∃ h:x<s.size,((s[x]'h).toNat:Int)=69)→IntKind.i64.wrap (((x:Nat):Int)+1)=((q:Nat):Int)→(∃ h:q<s.size,((s[q]'h).toNat:Int)=D)→¬ D=43→¬ D=45→(∀ u,Calls Tryz.prog 32 #[.string s,.int .i64 ((q:Nat):Int)] u fun e w'=>e = .returned (.bool true)∧w'=u)→(∀ u,Calls Tryz.prog 53 #[.string s,.int .i64 ((q:Nat):Int)] u fun e w'=>e = .returned (.int .i64 ((r:Nat):Int))∧w'=u)→P r) :
  P (x+exC (s.data.toList.drop x)):=by
 rcases (by omega:s.size≤x∨x<s.size) with h1|h1
 ·rw [drop_none h1];exact La (by omega)
 ·rw [drop_byte h1]
  have hb:=getD_get h1
  obtain ⟨c,hc⟩:∃ c,s.data.toList.getD x 0=c:=⟨_,rfl⟩
  rw [hc] at hb ⊢
  have w1:IntKind.i64.wrap (((x:Nat):Int)+1)=((x+1:Nat):Int):=by rw [IntKind.wrap_i64];omega
  by_cases c1:c=101
  ·subst c1
   have z1:(∃ h:x<s.size,((s[x]'h).toNat:Int)=101):=⟨h1,hb.trans (by decide)⟩
   rw [exC_e (.inl rfl)]
   rcases (by omega:s.size≤x+1∨x+1<s.size) with h2|h2
   ·have hz:¬ 0<ldL (s.data.toList.drop (x+1)) dgB:=by rw [drop_none h2];decide
    rw [if_neg hz,drop_none h2]
    exact Ll0 (x+1) z1 w1 (by omega) (dbF hz)
   ·have hb2:=getD_get h2
    have hd2:=drop_byte h2
    have w2:IntKind.i64.wrap (((x+1:Nat):Int)+1)=((x+1+1:Nat):Int):=by rw [IntKind.wrap_i64];omega
    obtain ⟨d,hdd⟩:∃ d,s.data.toList.getD (x+1) 0=d:=⟨_,rfl⟩
    rw [hdd] at hb2 hd2
    by_cases dp:d=43
    ·subst dp
     have z2:(∃ h:x+1<s.size,((s[x+1]'h).toNat:Int)=43):=⟨h2,hb2.trans (by decide)⟩
     have hz:¬ 0<ldL (s.data.toList.drop (x+1)) dgB:=by rw [hd2,ldL_neg (by decide)];decide
     rw [if_neg hz,hd2]
     by_cases h3:0<ldL (s.data.toList.drop (x+1+1)) dgB
     ·have h4:=Llp1 (x+1) (x+1+1) _ z1 w1 z2 w2 (dbT h3) (dgT (by omega) hs)
      rw [exS_s (.inl rfl) h3,show x+(2+ldL (s.data.toList.drop (x+1+1)) dgB)=x+1+1+ldL (s.data.toList.drop (x+1+1)) dgB by omega]
      exact h4
     ·rw [exS_n (fun h=>h3 h.2)]
      exact Llp0 (x+1) (x+1+1) z1 w1 z2 w2 (dbF h3)
    by_cases dm:d=45
    ·subst dm
     have z2:(∃ h:x+1<s.size,((s[x+1]'h).toNat:Int)=45):=⟨h2,hb2.trans (by decide)⟩
     have hz:¬ 0<ldL (s.data.toList.drop (x+1)) dgB:=by rw [hd2,ldL_neg (by decide)];decide
     rw [if_neg hz,hd2]
     by_cases h3:0<ldL (s.data.toList.drop (x+1+1)) dgB
     ·have h4:=Llm1 (x+1) (x+1+1) _ z1 w1 z2 w2 (dbT h3) (dgT (by omega) hs)
      rw [exS_s (.inr rfl) h3,show x+(2+ldL (s.data.toList.drop (x+1+1)) dgB)=x+1+1+ldL (s.data.toList.drop (x+1+1)) dgB by omega]
      exact h4
     ·rw [exS_n (fun h=>h3 h.2)]
      exact Llm0 (x+1) (x+1+1) z1 w1 z2 w2 (dbF h3)
    have n1:¬ (d.toNat:Int)=43:=fun h=>dp (nat_eq (d:=43) h)
    have n2:¬ (d.toNat:Int)=45:=fun h=>dm (nat_eq (d:=45) h)
    have z2:(∃ h:x+1<s.size,((s[x+1]'h).toNat:Int)=(d.toNat:Int)):=⟨h2,hb2⟩
    by_cases h3:0<ldL (s.data.toList.drop (x+1)) dgB
    ·have h4:=Lld1 (x+1) _ _ z1 w1 z2 n1 n2 (dbT h3) (dgT (by omega) hs)
     rw [if_pos h3,show x+(1+ldL (s.data.toList.drop (x+1)) dgB)=x+1+ldL (s.data.toList.drop (x+1)) dgB by omega]
     exact h4
    ·rw [if_neg h3,hd2,exS_n (fun h=>h.1.elim dp dm)]
     exact Lld0 (x+1) _ z1 w1 z2 n1 n2 (dbF h3)
  by_cases c2:c=69
  ·subst c2
   have z1:(∃ h:x<s.size,((s[x]'h).toNat:Int)=69):=⟨h1,hb.trans (by decide)⟩
   rw [exC_e (.inr rfl)]
   rcases (by omega:s.size≤x+1∨x+1<s.size) with h2|h2
   ·have hz:¬ 0<ldL (s.data.toList.drop (x+1)) dgB:=by rw [drop_none h2];decide
    rw [if_neg hz,drop_none h2]
    exact Lu0 (x+1) z1 w1 (by omega) (dbF hz)
   ·have hb2:=getD_get h2
    have hd2:=drop_byte h2
    have w2:IntKind.i64.wrap (((x+1:Nat):Int)+1)=((x+1+1:Nat):Int):=by rw [IntKind.wrap_i64];omega
    obtain ⟨d,hdd⟩:∃ d,s.data.toList.getD (x+1) 0=d:=⟨_,rfl⟩
    rw [hdd] at hb2 hd2
    by_cases dp:d=43
    ·subst dp
     have z2:(∃ h:x+1<s.size,((s[x+1]'h).toNat:Int)=43):=⟨h2,hb2.trans (by decide)⟩
     have hz:¬ 0<ldL (s.data.toList.drop (x+1)) dgB:=by rw [hd2,ldL_neg (by decide)];decide
     rw [if_neg hz,hd2]
     by_cases h3:0<ldL (s.data.toList.drop (x+1+1)) dgB
     ·have h4:=Lup1 (x+1) (x+1+1) _ z1 w1 z2 w2 (dbT h3) (dgT (by omega) hs)
      rw [exS_s (.inl rfl) h3,show x+(2+ldL (s.data.toList.drop (x+1+1)) dgB)=x+1+1+ldL (s.data.toList.drop (x+1+1)) dgB by omega]
      exact h4
     ·rw [exS_n (fun h=>h3 h.2)]
      exact Lup0 (x+1) (x+1+1) z1 w1 z2 w2 (dbF h3)
    by_cases dm:d=45
    ·subst dm
     have z2:(∃ h:x+1<s.size,((s[x+1]'h).toNat:Int)=45):=⟨h2,hb2.trans (by decide)⟩
     have hz:¬ 0<ldL (s.data.toList.drop (x+1)) dgB:=by rw [hd2,ldL_neg (by decide)];decide
     rw [if_neg hz,hd2]
     by_cases h3:0<ldL (s.data.toList.drop (x+1+1)) dgB
     ·have h4:=Lum1 (x+1) (x+1+1) _ z1 w1 z2 w2 (dbT h3) (dgT (by omega) hs)
      rw [exS_s (.inr rfl) h3,show x+(2+ldL (s.data.toList.drop (x+1+1)) dgB)=x+1+1+ldL (s.data.toList.drop (x+1+1)) dgB by omega]
      exact h4
     ·rw [exS_n (fun h=>h3 h.2)]
      exact Lum0 (x+1) (x+1+1) z1 w1 z2 w2 (dbF h3)
    have n1:¬ (d.toNat:Int)=43:=fun h=>dp (nat_eq (d:=43) h)
    have n2:¬ (d.toNat:Int)=45:=fun h=>dm (nat_eq (d:=45) h)
    have z2:(∃ h:x+1<s.size,((s[x+1]'h).toNat:Int)=(d.toNat:Int)):=⟨h2,hb2⟩
    by_cases h3:0<ldL (s.data.toList.drop (x+1)) dgB
    ·have h4:=Lud1 (x+1) _ _ z1 w1 z2 n1 n2 (dbT h3) (dgT (by omega) hs)
     rw [if_pos h3,show x+(1+ldL (s.data.toList.drop (x+1)) dgB)=x+1+ldL (s.data.toList.drop (x+1)) dgB by omega]
     exact h4
    ·rw [if_neg h3,hd2,exS_n (fun h=>h.1.elim dp dm)]
     exact Lud0 (x+1) _ z1 w1 z2 n1 n2 (dbF h3)
  rw [exC_o (fun h=>h.elim c1 c2)]
  exact Lb _ ⟨h1,hb⟩ (fun h=>c1 (nat_eq (d:=101) h)) (fun h=>c2 (nat_eq (d:=69) h))
theorem literalD (s:ByteArray) (k:Nat) (w:World) (hk:k<s.size) (hs:s.size≤100000000) (hB:begL (s.data.toList.drop k)=true) :
  Calls Tryz.prog 33 #[.string s,.int .i64 (k:Int)] w fun e w'=>e = .returned (.int .i64 ((k+litN (s.data.toList.drop k):Nat):Int))∧w'=w:=by
 have hby:=getD_get hk
 have wk:IntKind.i64.wrap (((k:Nat):Int)+1)=((k+1:Nat):Int):=by rw [IntKind.wrap_i64];omega
 have H0:=dgT (s:=s) (x:=k) (by omega) hs
 have ha0:ldL (s.data.toList.drop k) dgB=0→s.data.toList.getD k 0=46:=fun ha=>by
  rw [drop_byte hk] at hB ha
  unfold begL at hB
  simp only [List.head?_cons,List.headD_cons,Bool.or_eq_true,beq_iff_eq,Option.some.injEq] at hB
  rcases hB with h|h
  ·exact h
  ·rw [ldL_pos h] at ha;omega
 have hpd:(s.data.toList.drop k).drop (ldL (s.data.toList.drop k) dgB)=s.data.toList.drop (k+ldL (s.data.toList.drop k) dgB):=List.drop_drop
 have l1:=@lit_nil (s.data.toList.drop k)
 have l2:=@lit_sl (s.data.toList.drop k)
 have l3:=@lit_dot (s.data.toList.drop k)
 have l4:=@lit_else (s.data.toList.drop k)
 rw [hpd] at l1 l2 l3 l4
 generalize litN (s.data.toList.drop k)=N at *
 generalize ldL (s.data.toList.drop k) dgB=a at *
 clear hB hpd
 rcases (by omega:s.size≤k+a∨k+a<s.size) with h1|h1
 ·rw [l1 (drop_none h1)]
  exact lqC s w H0 (by omega) (by omega) (by omega)
 ·have hd:=drop_byte h1
  have hb2:=getD_get h1
  have wp:IntKind.i64.wrap (((k+a:Nat):Int)+1)=((k+a+1:Nat):Int):=by rw [IntKind.wrap_i64];omega
  obtain ⟨c,hc⟩:∃ c,s.data.toList.getD (k+a) 0=c:=⟨_,rfl⟩
  rw [hc] at hd hb2
  by_cases c47:c=47
  ·subst c47
   have hne:a≠0:=fun h=>by subst h;rw [Nat.add_zero] at hc;rw [ha0 rfl] at hc;exact absurd hc (by decide)
   have zp:(∃ h:k+a<s.size,((s[k+a]'h).toNat:Int)=47):=⟨h1,hb2.trans (by decide)⟩
   rw [l2 hd]
   by_cases h3:0<ldL (s.data.toList.drop (k+a+1)) dgB
   ·rw [if_pos h3]
    have h4:=lqA s w H0 (by omega) zp wp (dbT h3) (dgT (by omega) hs)
    rw [show k+(a+1+ldL (s.data.toList.drop (k+a+1)) dgB)=k+a+1+ldL (s.data.toList.drop (k+a+1)) dgB by omega]
    exact h4
   ·rw [if_neg h3]
    exact lqB s w H0 (by omega) zp wp (dbF h3) (by omega)
  by_cases c46:c=46
  ·subst c46
   have zp:(∃ h:k+a<s.size,((s[k+a]'h).toNat:Int)=46):=⟨h1,hb2.trans (by decide)⟩
   rw [l3 hd]
   have B0:=dgT (s:=s) (x:=k+a+1) (by omega) hs
   have hxd:(s.data.toList.drop (k+a+1)).drop (ldL (s.data.toList.drop (k+a+1)) dgB)=s.data.toList.drop (k+a+1+ldL (s.data.toList.drop (k+a+1)) dgB):=List.drop_drop
   rw [hxd]
   clear hxd l1 l2 l3 l4 hd
   generalize ldL (s.data.toList.drop (k+a+1)) dgB=d at *
   by_cases ha:a=0
   ·subst ha
    simp only [Nat.add_zero,Nat.zero_add] at *
    by_cases hd0:d=0
    ·subst hd0
     rw [if_pos rfl]
     exact lqD s w H0 zp wk B0
    ·rw [if_neg hd0,← Nat.add_assoc,← Nat.add_assoc]
     have m1:¬ ((k+1+d:Nat):Int)=((k+1:Nat):Int):=by omega
     have m2:¬ ((k+1+d:Nat):Int)=(k:Int):=by omega
     exact tail_pick (P:=fun N=>Calls Tryz.prog 33 #[.string s,.int .i64 (k:Int)] w fun e w'=>e = .returned (.int .i64 (N:Int))∧w'=w) hs (fun y0=>lEa s w H0 zp wk B0 m1 m2 y0) (fun C y0 y1 y2=>lEb s w H0 zp wk B0 m1 m2 y0 y1 y2) (fun q y0 y1 y2 y3=>lEl0 s w H0 zp wk B0 m1 m2 y0 y1 y2 y3) (fun q q2 y0 y1 y2 y3 y4=>lElp0 s w H0 zp wk B0 m1 m2 y0 y1 y2 y3 y4) (fun q q2 r y0 y1 y2 y3 y4 y5=>lElp1 s w H0 zp wk B0 m1 m2 y0 y1 y2 y3 y4 y5) (fun q q2 y0 y1 y2 y3 y4=>lElm0 s w H0 zp wk B0 m1 m2 y0 y1 y2 y3 y4) (fun q q2 r y0 y1 y2 y3 y4 y5=>lElm1 s w H0 zp wk B0 m1 m2 y0 y1 y2 y3 y4 y5) (fun q D y0 y1 y2 y3 y4 y5=>lEld0 s w H0 zp wk B0 m1 m2 y0 y1 y2 y3 y4 y5) (fun q r D y0 y1 y2 y3 y4 y5 y6=>lEld1 s w H0 zp wk B0 m1 m2 y0 y1 y2 y3 y4 y5 y6) (fun q y0 y1 y2 y3=>lEu0 s w H0 zp wk B0 m1 m2 y0 y1 y2 y3) (fun q q2 y0 y1 y2 y3 y4=>lEup0 s w H0 zp wk B0 m1 m2 y0 y1 y2 y3 y4) (fun q q2 r y0 y1 y2 y3 y4 y5=>lEup1 s w H0 zp wk B0 m1 m2 y0 y1 y2 y3 y4 y5) (fun q q2 y0 y1 y2 y3 y4=>lEum0 s w H0 zp wk B0 m1 m2 y0 y1 y2 y3 y4) (fun q q2 r y0 y1 y2 y3 y4 y5=>lEum1 s w H0 zp wk B0 m1 m2 y0 y1 y2 y3 y4 y5) (fun q D y0 y1 y2 y3 y4 y5=>lEud0 s w H0 zp wk B0 m1 m2 y0 y1 y2 y3 y4 y5) (fun q r D y0 y1 y2 y3 y4 y5 y6=>lEud1 s w H0 zp wk B0 m1 m2 y0 y1 y2 y3 y4 y5 y6)
   ·have kp:(k:Int)<((k+a:Nat):Int):=by omega
    have m1:¬ ((k+a+1+d:Nat):Int)=((k+1:Nat):Int):=by omega
    have m2:¬ ((k+a+1+d:Nat):Int)=(k:Int):=by omega
    rw [if_neg (by omega),← Nat.add_assoc,← Nat.add_assoc,← Nat.add_assoc]
    exact tail_pick (P:=fun N=>Calls Tryz.prog 33 #[.string s,.int .i64 (k:Int)] w fun e w'=>e = .returned (.int .i64 (N:Int))∧w'=w) hs (fun y0=>lFa s w H0 kp zp wp wk B0 m1 m2 y0) (fun C y0 y1 y2=>lFb s w H0 kp zp wp wk B0 m1 m2 y0 y1 y2) (fun q y0 y1 y2 y3=>lFl0 s w H0 kp zp wp wk B0 m1 m2 y0 y1 y2 y3) (fun q q2 y0 y1 y2 y3 y4=>lFlp0 s w H0 kp zp wp wk B0 m1 m2 y0 y1 y2 y3 y4) (fun q q2 r y0 y1 y2 y3 y4 y5=>lFlp1 s w H0 kp zp wp wk B0 m1 m2 y0 y1 y2 y3 y4 y5) (fun q q2 y0 y1 y2 y3 y4=>lFlm0 s w H0 kp zp wp wk B0 m1 m2 y0 y1 y2 y3 y4) (fun q q2 r y0 y1 y2 y3 y4 y5=>lFlm1 s w H0 kp zp wp wk B0 m1 m2 y0 y1 y2 y3 y4 y5) (fun q D y0 y1 y2 y3 y4 y5=>lFld0 s w H0 kp zp wp wk B0 m1 m2 y0 y1 y2 y3 y4 y5) (fun q r D y0 y1 y2 y3 y4 y5 y6=>lFld1 s w H0 kp zp wp wk B0 m1 m2 y0 y1 y2 y3 y4 y5 y6) (fun q y0 y1 y2 y3=>lFu0 s w H0 kp zp wp wk B0 m1 m2 y0 y1 y2 y3) (fun q q2 y0 y1 y2 y3 y4=>lFup0 s w H0 kp zp wp wk B0 m1 m2 y0 y1 y2 y3 y4) (fun q q2 r y0 y1 y2 y3 y4 y5=>lFup1 s w H0 kp zp wp wk B0 m1 m2 y0 y1 y2 y3 y4 y5) (fun q q2 y0 y1 y2 y3 y4=>lFum0 s w H0 kp zp wp wk B0 m1 m2 y0 y1 y2 y3 y4) (fun q q2 r y0 y1 y2 y3 y4 y5=>lFum1 s w H0 kp zp wp wk B0 m1 m2 y0 y1 y2 y3 y4 y5) (fun q D y0 y1 y2 y3 y4 y5=>lFud0 s w H0 kp zp wp wk B0 m1 m2 y0 y1 y2 y3 y4 y5) (fun q r D y0 y1 y2 y3 y4 y5 y6=>lFud1 s w H0 kp zp wp wk B0 m1 m2 y0 y1 y2 y3 y4 y5 y6)
  have hne:a≠0:=fun h=>by subst h;rw [Nat.add_zero] at hc;rw [ha0 rfl] at hc;exact c46 hc.symm
  rw [l4 hd c47 c46,← hd,← Nat.add_assoc]
  have kp:(k:Int)<((k+a:Nat):Int):=by omega
  have mpk:¬ ((k+a:Nat):Int)=(k:Int):=by omega
  clear l1 l2 l3 l4 hd
  exact tail_pick (P:=fun N=>Calls Tryz.prog 33 #[.string s,.int .i64 (k:Int)] w fun e w'=>e = .returned (.int .i64 (N:Int))∧w'=w) hs (fun h=>lqC s w H0 kp h mpk) (fun C z h1 h2=>lGb s w H0 kp mpk z (fun e=>c47 (nat_eq (d:=47) (by rw [← hb2];obtain ⟨_,z⟩:=z;rw [z];exact e))) (fun e=>c46 (nat_eq (d:=46) (by rw [← hb2];obtain ⟨_,z⟩:=z;rw [z];exact e))) h1 h2) (fun q y0 y1 y2 y3=>lGl0 s w H0 kp mpk y0 y1 y2 y3) (fun q q2 y0 y1 y2 y3 y4=>lGlp0 s w H0 kp mpk y0 y1 y2 y3 y4) (fun q q2 r y0 y1 y2 y3 y4 y5=>lGlp1 s w H0 kp mpk y0 y1 y2 y3 y4 y5) (fun q q2 y0 y1 y2 y3 y4=>lGlm0 s w H0 kp mpk y0 y1 y2 y3 y4) (fun q q2 r y0 y1 y2 y3 y4 y5=>lGlm1 s w H0 kp mpk y0 y1 y2 y3 y4 y5) (fun q D y0 y1 y2 y3 y4 y5=>lGld0 s w H0 kp mpk y0 y1 y2 y3 y4 y5) (fun q r D y0 y1 y2 y3 y4 y5 y6=>lGld1 s w H0 kp mpk y0 y1 y2 y3 y4 y5 y6) (fun q y0 y1 y2 y3=>lGu0 s w H0 kp mpk y0 y1 y2 y3) (fun q q2 y0 y1 y2 y3 y4=>lGup0 s w H0 kp mpk y0 y1 y2 y3 y4) (fun q q2 r y0 y1 y2 y3 y4 y5=>lGup1 s w H0 kp mpk y0 y1 y2 y3 y4 y5) (fun q q2 y0 y1 y2 y3 y4=>lGum0 s w H0 kp mpk y0 y1 y2 y3 y4) (fun q q2 r y0 y1 y2 y3 y4 y5=>lGum1 s w H0 kp mpk y0 y1 y2 y3 y4 y5) (fun q D y0 y1 y2 y3 y4 y5=>lGud0 s w H0 kp mpk y0 y1 y2 y3 y4 y5) (fun q r D y0 y1 y2 y3 y4 y5 y6=>lGud1 s w H0 kp mpk y0 y1 y2 y3 y4 y5 y6)
end Go.Proofs.YtgdilnljjgdinaaGreatDoor
