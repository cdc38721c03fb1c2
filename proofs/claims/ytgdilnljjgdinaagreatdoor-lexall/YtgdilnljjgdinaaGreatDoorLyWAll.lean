import Derived.Test.YtgdilnljjgdinaaGreatDoorLxNAll
import Derived.Test.YtgdilnljjgdinaaGreatDoorLxFAll
namespace Go.Proofs.YtgdilnljjgdinaaGreatDoor
open Go.RowKit Go.Shelf
-- what is read of a text stays so where a blank,or nothing,comes behind it
theorem exN_mark:exMs=[[101],[69],[101,43],[69,43],[101,45],[69,45]]:=by decide
def exS:List UInt8→Nat
 | []=>0
 | s::l2=>if (s=43∨s=45)∧0<ldL l2 dgB then 2+ldL l2 dgB else 0
def exC:List UInt8→Nat
 | []=>0
 | c::l1=>if c=101∨c=69 then (if 0<ldL l1 dgB then 1+ldL l1 dgB else exS l1) else 0
theorem lb1 (m c:UInt8) (l:List UInt8):lbN (c::l) [m]=if c=m then ldL l dgB else 0:=by
 unfold lbN
 by_cases h:c=m
 ·subst h;simp [List.isPrefixOf]
 ·rw [if_neg h,if_neg]
  simp [List.isPrefixOf]
  exact fun e=>h e.symm
theorem lb2 (m n c s:UInt8) (l:List UInt8):lbN (c::s::l) [m,n]=if c=m∧s=n then ldL l dgB else 0:=by
 unfold lbN
 by_cases h:c=m∧s=n
 ·obtain ⟨rfl,rfl⟩:=h;simp [List.isPrefixOf]
 ·rw [if_neg h,if_neg]
  simp [List.isPrefixOf]
  exact fun e1 e2=>h ⟨e1.symm,e2.symm⟩
theorem lb2' (m n c:UInt8):lbN [c] [m,n]=0:=by
 unfold lbN
 rw [if_neg]
 simp [List.isPrefixOf]
theorem lb0 (m:UInt8) (ms:List UInt8):lbN [] (m::ms)=0:=by
 unfold lbN
 rw [if_neg]
 simp [List.isPrefixOf]
theorem exN_C (l:List UInt8):exN l=exC l:=by
 unfold exN
 rw [exN_mark]
 cases l with
 | nil=>simp only [exG,lb0,exC];rfl
 | cons c l1 =>
  cases l1 with
  | nil =>
   simp only [exG,lb1,lb2',exC,exS]
   have:ldL [] dgB=0:=rfl
   simp [this]
  | cons s l2 =>
   simp only [exG,lb1,lb2,exC,exS]
   by_cases h1:c=101
   ·subst h1
    by_cases h2:0<ldL (s::l2) dgB
    ·simp [h2]
    ·by_cases h3:s=43
     ·subst h3
      by_cases h4:0<ldL l2 dgB <;> simp [h2,h4]
     ·by_cases h5:s=45
      ·subst h5
       by_cases h4:0<ldL l2 dgB <;> simp [h2,h4]
      ·simp [h2,h3,h5]
   ·by_cases h1':c=69
    ·subst h1'
     by_cases h2:0<ldL (s::l2) dgB
     ·simp [h2]
     ·by_cases h3:s=43
      ·subst h3
       by_cases h4:0<ldL l2 dgB <;> simp [h2,h4]
      ·by_cases h5:s=45
       ·subst h5
        by_cases h4:0<ldL l2 dgB <;> simp [h2,h4]
       ·simp [h2,h3,h5]
    ·simp [h1,h1']
end Go.Proofs.YtgdilnljjgdinaaGreatDoor
namespace Go.Proofs.YtgdilnljjgdinaaGreatDoor
open Go.RowKit Go.Shelf
theorem ld_byte {s:ByteArray} {k:Nat} (h:k<s.size):(0<ldL (s.data.toList.drop k) dgB)↔dgB.contains (s.data.toList.getD k 0)=true:=by
 rw [drop_byte h]
 cases hc:dgB.contains (s.data.toList.getD k 0) with
 | true=>rw [ldL_pos hc];simp
 | false=>rw [ldL_neg (by rw [hc];decide)];simp
theorem digitA (s:ByteArray) (k:Nat) (w:World) :
  Calls Tryz.prog 32 #[.string s,.int .i64 (k:Int)] w fun e w'=>e = .returned (.bool (decide (0<ldL (s.data.toList.drop k) dgB)))∧w'=w:=by
 by_cases h:k<s.size
 ·have h2:=digitD s k w h
  have e:decide (0<ldL (s.data.toList.drop k) dgB)=dgB.contains (s.data.toList.getD k 0):=by
   cases hc:dgB.contains (s.data.toList.getD k 0) with
   | true=>exact decide_eq_true ((ld_byte h).2 hc)
   | false=>exact decide_eq_false fun h'=>by rw [(ld_byte h).1 h'] at hc;cases hc
  rw [e];exact h2
 ·rw [drop_none (by omega),show decide (0<ldL [] dgB)=false from rfl]
  have hil:¬ (k:Int)<(s.size:Int):=by omega
  go_enter Tryz.func32,Tryz.ntmps32
  go_wp2
  go_ret
  exact ⟨rfl,rfl⟩
set_option maxRecDepth 100000 in
set_option maxHeartbeats 4000000 in
theorem digitsD (s:ByteArray) (k:Nat) (w:World) (hk:k≤s.size) (hs:s.size≤1000000000) :
  Calls Tryz.prog 53 #[.string s,.int .i64 (k:Int)] w fun e w'=>e = .returned (.int .i64 ((k+ldL (s.data.toList.drop k) dgB:Nat):Int))∧w'=w:=by
 obtain ⟨N,hN⟩:∃ N,k+ldL (s.data.toList.drop k) dgB=N:=⟨_,rfl⟩
 rw [hN]
 go_enter Tryz.func53,Tryz.ntmps53
 go_wp2
 go_loopw [1] (fun t wr=>∃ i:Nat,i≤s.size∧t = .int .i64 i∧Hid (i+ldL (s.data.toList.drop i) dgB=N)∧wr=w) (fun t _=>s.size-(intOf t).toNat)
 case atStart=>exact ⟨k,hk,rfl,hN,rfl⟩
 case round =>
  obtain ⟨i,hi,rfl,HN,rfl⟩:=hrel
  clear hN hk
  have HC:=fun u=>digitA s i u
  have hw1:IntKind.i64.wrap ((i:Int)+1)=(i:Int)+1:=by rw [IntKind.wrap_i64];omega
  by_cases hc:0<ldL (s.data.toList.drop i) dgB
  ·have hlt:i<s.size:=by
    rcases (by omega:i<s.size∨s.size≤i) with h|h
    ·exact h
    ·rw [drop_none h] at hc;exact absurd hc (by decide)
   have HN2:Hid (i+1+ldL (s.data.toList.drop (i+1)) dgB=N):=by
    have:=(ld_byte hlt).1 hc
    show _=_;rw [← HN.out,drop_byte hlt,ldL_pos this];omega
   rw [decide_eq_true hc] at HC
   clear hc HN
   go_wp2_with fail
   refine (HC _).mono ?_
   rintro e w1 ⟨rfl,rfl⟩
   go_wp2
   go_roundw
   case rel=>exact ⟨i+1,by omega,by go_num,HN2,by first|rfl|trivial⟩
   case measure=>simp [intOf];omega
  ·obtain rfl:i=N:=by have:=HN.out;omega
   rw [decide_eq_false hc] at HC
   clear hc HN
   go_wp2_with fail
   refine (HC _).mono ?_
   rintro e w1 ⟨rfl,rfl⟩
   go_wp2
   go_ret
   exact ⟨rfl,rfl⟩
set_option maxRecDepth 100000 in
set_option maxHeartbeats 1000000 in
theorem lqA (s:ByteArray) {k p p1 r:Nat} (w:World) (H0:(∀ u,Calls Tryz.prog 53 #[.string s,.int .i64 (k:Int)] u fun e w'=>e = .returned (.int .i64 (p:Int))∧w'=u)) (kp:(k:Int)<(p:Int)) (zp:∃ h:p<s.size,((s[p]'h).toNat:Int)=47) (wp:IntKind.i64.wrap ((p:Int)+1)=(p1:Int)) (B0:(∀ u,Calls Tryz.prog 32 #[.string s,.int .i64 (p1:Int)] u fun e w'=>e = .returned (.bool true)∧w'=u)) (B1:(∀ u,Calls Tryz.prog 53 #[.string s,.int .i64 (p1:Int)] u fun e w'=>e = .returned (.int .i64 (r:Int))∧w'=u)) :
  Calls Tryz.prog 33 #[.string s,.int .i64 (k:Int)] w fun e w'=>e = .returned (.int .i64 (r:Int))∧w'=w:=by
 obtain ⟨np,yp⟩:=zp
 have ip:(p:Int)<(s.size:Int):=by omega
 have jp:(0:Int)≤(p:Int):=by omega
 go_enter Tryz.func33,Tryz.ntmps33
 go_wp2_with fail
 refine (H0 _).mono ?_
 rintro e w1 ⟨rfl,rfl⟩
 clear H0
 go_wp2_with fail
 refine (B0 _).mono ?_
 rintro e w1 ⟨rfl,rfl⟩
 clear B0
 go_wp2_with fail
 refine (B1 _).mono ?_
 rintro e w1 ⟨rfl,rfl⟩
 clear B1
 go_wp2
 go_ret
 exact ⟨rfl,rfl⟩
set_option maxRecDepth 100000 in
set_option maxHeartbeats 1000000 in
theorem lqB (s:ByteArray) {k p p1:Nat} (w:World) (H0:(∀ u,Calls Tryz.prog 53 #[.string s,.int .i64 (k:Int)] u fun e w'=>e = .returned (.int .i64 (p:Int))∧w'=u)) (kp:(k:Int)<(p:Int)) (zp:∃ h:p<s.size,((s[p]'h).toNat:Int)=47) (wp:IntKind.i64.wrap ((p:Int)+1)=(p1:Int)) (B0:(∀ u,Calls Tryz.prog 32 #[.string s,.int .i64 (p1:Int)] u fun e w'=>e = .returned (.bool false)∧w'=u)) (mpk:¬ (p:Int)=(k:Int)) :
  Calls Tryz.prog 33 #[.string s,.int .i64 (k:Int)] w fun e w'=>e = .returned (.int .i64 (p:Int))∧w'=w:=by
 obtain ⟨np,yp⟩:=zp
 have ip:(p:Int)<(s.size:Int):=by omega
 have jp:(0:Int)≤(p:Int):=by omega
 have bmpk:((p:Int) == (k:Int))=false:=by simpa using mpk
 go_enter Tryz.func33,Tryz.ntmps33
 go_wp2_with fail
 refine (H0 _).mono ?_
 rintro e w1 ⟨rfl,rfl⟩
 clear H0
 go_wp2_with fail
 refine (B0 _).mono ?_
 rintro e w1 ⟨rfl,rfl⟩
 clear B0
 go_wp2
 go_ret
 exact ⟨rfl,rfl⟩
set_option maxRecDepth 100000 in
set_option maxHeartbeats 1000000 in
theorem lqC (s:ByteArray) {k p:Nat} (w:World) (H0:(∀ u,Calls Tryz.prog 53 #[.string s,.int .i64 (k:Int)] u fun e w'=>e = .returned (.int .i64 (p:Int))∧w'=u)) (kp:(k:Int)<(p:Int)) (gp:¬ (p:Int)<(s.size:Int)) (mpk:¬ (p:Int)=(k:Int)) :
  Calls Tryz.prog 33 #[.string s,.int .i64 (k:Int)] w fun e w'=>e = .returned (.int .i64 (p:Int))∧w'=w:=by
 have bmpk:((p:Int) == (k:Int))=false:=by simpa using mpk
 go_enter Tryz.func33,Tryz.ntmps33
 go_wp2_with fail
 refine (H0 _).mono ?_
 rintro e w1 ⟨rfl,rfl⟩
 clear H0
 go_wp2
 go_ret
 exact ⟨rfl,rfl⟩
set_option maxRecDepth 100000 in
set_option maxHeartbeats 1000000 in
theorem lqD (s:ByteArray) {k k1:Nat} (w:World) (H0:(∀ u,Calls Tryz.prog 53 #[.string s,.int .i64 (k:Int)] u fun e w'=>e = .returned (.int .i64 (k:Int))∧w'=u)) (zk:∃ h:k<s.size,((s[k]'h).toNat:Int)=46) (wk:IntKind.i64.wrap ((k:Int)+1)=(k1:Int)) (B0:(∀ u,Calls Tryz.prog 53 #[.string s,.int .i64 (k1:Int)] u fun e w'=>e = .returned (.int .i64 (k1:Int))∧w'=u)) :
  Calls Tryz.prog 33 #[.string s,.int .i64 (k:Int)] w fun e w'=>e = .returned (.int .i64 (k:Int))∧w'=w:=by
 obtain ⟨nk,yk⟩:=zk
 have ik:(k:Int)<(s.size:Int):=by omega
 have jk:(0:Int)≤(k:Int):=by omega
 go_enter Tryz.func33,Tryz.ntmps33
 go_wp2_with fail
 refine (H0 _).mono ?_
 rintro e w1 ⟨rfl,rfl⟩
 clear H0
 go_wp2_with fail
 refine (B0 _).mono ?_
 rintro e w1 ⟨rfl,rfl⟩
 clear B0
 go_wp2
 go_ret
 exact ⟨rfl,rfl⟩
end Go.Proofs.YtgdilnljjgdinaaGreatDoor
namespace Go.Proofs.YtgdilnljjgdinaaGreatDoor
open Go.RowKit Go.Shelf
set_option maxRecDepth 100000 in
set_option maxHeartbeats 1000000 in
theorem lEa (s:ByteArray) {k k1 x:Nat} (w:World) (H0:(∀ u,Calls Tryz.prog 53 #[.string s,.int .i64 (k:Int)] u fun e w'=>e = .returned (.int .i64 (k:Int))∧w'=u)) (zk:∃ h:k<s.size,((s[k]'h).toNat:Int)=46) (wk:IntKind.i64.wrap ((k:Int)+1)=(k1:Int)) (B0:(∀ u,Calls Tryz.prog 53 #[.string s,.int .i64 (k1:Int)] u fun e w'=>e = .returned (.int .i64 (x:Int))∧w'=u)) (mek1:¬ (x:Int)=(k1:Int)) (mek:¬ (x:Int)=(k:Int)) (gx:¬ (x:Int)<(s.size:Int)) :
  Calls Tryz.prog 33 #[.string s,.int .i64 (k:Int)] w fun e w'=>e = .returned (.int .i64 (x:Int))∧w'=w:=by
 obtain ⟨nk,yk⟩:=zk
 have ik:(k:Int)<(s.size:Int):=by omega
 have jk:(0:Int)≤(k:Int):=by omega
 have bmek1:((x:Int) == (k1:Int))=false:=by simpa using mek1
 have bmek:((x:Int) == (k:Int))=false:=by simpa using mek
 go_enter Tryz.func33,Tryz.ntmps33
 go_wp2_with fail
 refine (H0 _).mono ?_
 rintro e w1 ⟨rfl,rfl⟩
 clear H0
 go_wp2_with fail
 refine (B0 _).mono ?_
 rintro e w1 ⟨rfl,rfl⟩
 clear B0
 go_wp2
 go_ret
 exact ⟨rfl,rfl⟩
set_option maxRecDepth 100000 in
set_option maxHeartbeats 1000000 in
theorem lEb (s:ByteArray) {k k1 x:Nat} {C:Int} (w:World) (H0:(∀ u,Calls Tryz.prog 53 #[.string s,.int .i64 (k:Int)] u fun e w'=>e = .returned (.int .i64 (k:Int))∧w'=u)) (zk:∃ h:k<s.size,((s[k]'h).toNat:Int)=46) (wk:IntKind.i64.wrap ((k:Int)+1)=(k1:Int)) (B0:(∀ u,Calls Tryz.prog 53 #[.string s,.int .i64 (k1:Int)] u fun e w'=>e = .returned (.int .i64 (x:Int))∧w'=u)) (mek1:¬ (x:Int)=(k1:Int)) (mek:¬ (x:Int)=(k:Int)) (zx:∃ h:x<s.size,((s[x]'h).toNat:Int)=C) (c101:¬ C=101) (c69:¬ C=69) :
  Calls Tryz.prog 33 #[.string s,.int .i64 (k:Int)] w fun e w'=>e = .returned (.int .i64 (x:Int))∧w'=w:=by
 obtain ⟨nk,yk⟩:=zk
 have ik:(k:Int)<(s.size:Int):=by omega
 have jk:(0:Int)≤(k:Int):=by omega
 have bmek1:((x:Int) == (k1:Int))=false:=by simpa using mek1
 have bmek:((x:Int) == (k:Int))=false:=by simpa using mek
 obtain ⟨nx,yx⟩:=zx
 have ix:(x:Int)<(s.size:Int):=by omega
 have jx:(0:Int)≤(x:Int):=by omega
 have bc101:(C == 101)=false:=by simpa using c101
 have bc69:(C == 69)=false:=by simpa using c69
 go_enter Tryz.func33,Tryz.ntmps33
 go_wp2_with fail
 refine (H0 _).mono ?_
 rintro e w1 ⟨rfl,rfl⟩
 clear H0
 go_wp2_with fail
 refine (B0 _).mono ?_
 rintro e w1 ⟨rfl,rfl⟩
 clear B0
 go_wp2
 go_ret
 exact ⟨rfl,rfl⟩
set_option maxRecDepth 100000 in
set_option maxHeartbeats 1000000 in
theorem lEl0 (s:ByteArray) {k k1 x q:Nat} (w:World) (H0:(∀ u,Calls Tryz.prog 53 #[.string s,.int .i64 (k:Int)] u fun e w'=>e = .returned (.int .i64 (k:Int))∧w'=u)) (zk:∃ h:k<s.size,((s[k]'h).toNat:Int)=46) (wk:IntKind.i64.wrap ((k:Int)+1)=(k1:Int)) (B0:(∀ u,Calls Tryz.prog 53 #[.string s,.int .i64 (k1:Int)] u fun e w'=>e = .returned (.int .i64 (x:Int))∧w'=u)) (mek1:¬ (x:Int)=(k1:Int)) (mek:¬ (x:Int)=(k:Int)) (zx:∃ h:x<s.size,((s[x]'h).toNat:Int)=101) (wx:IntKind.i64.wrap ((x:Int)+1)=(q:Int)) (gq:¬ (q:Int)<(s.size:Int)) (B1:(∀ u,Calls Tryz.prog 32 #[.string s,.int .i64 (q:Int)] u fun e w'=>e = .returned (.bool false)∧w'=u)) :
  Calls Tryz.prog 33 #[.string s,.int .i64 (k:Int)] w fun e w'=>e = .returned (.int .i64 (x:Int))∧w'=w:=by
 obtain ⟨nk,yk⟩:=zk
 have ik:(k:Int)<(s.size:Int):=by omega
 have jk:(0:Int)≤(k:Int):=by omega
 have bmek1:((x:Int) == (k1:Int))=false:=by simpa using mek1
 have bmek:((x:Int) == (k:Int))=false:=by simpa using mek
 obtain ⟨nx,yx⟩:=zx
 have ix:(x:Int)<(s.size:Int):=by omega
 have jx:(0:Int)≤(x:Int):=by omega
 go_enter Tryz.func33,Tryz.ntmps33
 go_wp2_with fail
 refine (H0 _).mono ?_
 rintro e w1 ⟨rfl,rfl⟩
 clear H0
 go_wp2_with fail
 refine (B0 _).mono ?_
 rintro e w1 ⟨rfl,rfl⟩
 clear B0
 go_wp2_with fail
 refine (B1 _).mono ?_
 rintro e w1 ⟨rfl,rfl⟩
 clear B1
 go_wp2
 go_ret
 exact ⟨rfl,rfl⟩
set_option maxRecDepth 100000 in
set_option maxHeartbeats 1000000 in
theorem lElp0 (s:ByteArray) {k k1 x q q2:Nat} (w:World) (H0:(∀ u,Calls Tryz.prog 53 #[.string s,.int .i64 (k:Int)] u fun e w'=>e = .returned (.int .i64 (k:Int))∧w'=u)) (zk:∃ h:k<s.size,((s[k]'h).toNat:Int)=46) (wk:IntKind.i64.wrap ((k:Int)+1)=(k1:Int)) (B0:(∀ u,Calls Tryz.prog 53 #[.string s,.int .i64 (k1:Int)] u fun e w'=>e = .returned (.int .i64 (x:Int))∧w'=u)) (mek1:¬ (x:Int)=(k1:Int)) (mek:¬ (x:Int)=(k:Int)) (zx:∃ h:x<s.size,((s[x]'h).toNat:Int)=101) (wx:IntKind.i64.wrap ((x:Int)+1)=(q:Int)) (zq:∃ h:q<s.size,((s[q]'h).toNat:Int)=43) (wq:IntKind.i64.wrap ((q:Int)+1)=(q2:Int)) (B1:(∀ u,Calls Tryz.prog 32 #[.string s,.int .i64 (q2:Int)] u fun e w'=>e = .returned (.bool false)∧w'=u)) :
  Calls Tryz.prog 33 #[.string s,.int .i64 (k:Int)] w fun e w'=>e = .returned (.int .i64 (x:Int))∧w'=w:=by
 obtain ⟨nk,yk⟩:=zk
 have ik:(k:Int)<(s.size:Int):=by omega
 have jk:(0:Int)≤(k:Int):=by omega
 have bmek1:((x:Int) == (k1:Int))=false:=by simpa using mek1
 have bmek:((x:Int) == (k:Int))=false:=by simpa using mek
 obtain ⟨nx,yx⟩:=zx
 have ix:(x:Int)<(s.size:Int):=by omega
 have jx:(0:Int)≤(x:Int):=by omega
 obtain ⟨nq,yq⟩:=zq
 have iq:(q:Int)<(s.size:Int):=by omega
 have jq:(0:Int)≤(q:Int):=by omega
 go_enter Tryz.func33,Tryz.ntmps33
 go_wp2_with fail
 refine (H0 _).mono ?_
 rintro e w1 ⟨rfl,rfl⟩
 clear H0
 go_wp2_with fail
 refine (B0 _).mono ?_
 rintro e w1 ⟨rfl,rfl⟩
 clear B0
 go_wp2_with fail
 refine (B1 _).mono ?_
 rintro e w1 ⟨rfl,rfl⟩
 clear B1
 go_wp2
 go_ret
 exact ⟨rfl,rfl⟩
set_option maxRecDepth 100000 in
set_option maxHeartbeats 1000000 in
theorem lElp1 (s:ByteArray) {k k1 x q q2 r:Nat} (w:World) (H0:(∀ u,Calls Tryz.prog 53 #[.string s,.int .i64 (k:Int)] u fun e w'=>e = .returned (.int .i64 (k:Int))∧w'=u)) (zk:∃ h:k<s.size,((s[k]'h).toNat:Int)=46) (wk:IntKind.i64.wrap ((k:Int)+1)=(k1:Int)) (B0:(∀ u,Calls Tryz.prog 53 #[.string s,.int .i64 (k1:Int)] u fun e w'=>e = .returned (.int .i64 (x:Int))∧w'=u)) (mek1:¬ (x:Int)=(k1:Int)) (mek:¬ (x:Int)=(k:Int)) (zx:∃ h:x<s.size,((s[x]'h).toNat:Int)=101) (wx:IntKind.i64.wrap ((x:Int)+1)=(q:Int)) (zq:∃ h:q<s.size,((s[q]'h).toNat:Int)=43) (wq:IntKind.i64.wrap ((q:Int)+1)=(q2:Int)) (B1:(∀ u,Calls Tryz.prog 32 #[.string s,.int .i64 (q2:Int)] u fun e w'=>e = .returned (.bool true)∧w'=u)) (B2:(∀ u,Calls Tryz.prog 53 #[.string s,.int .i64 (q2:Int)] u fun e w'=>e = .returned (.int .i64 (r:Int))∧w'=u)) :
  Calls Tryz.prog 33 #[.string s,.int .i64 (k:Int)] w fun e w'=>e = .returned (.int .i64 (r:Int))∧w'=w:=by
 obtain ⟨nk,yk⟩:=zk
 have ik:(k:Int)<(s.size:Int):=by omega
 have jk:(0:Int)≤(k:Int):=by omega
 have bmek1:((x:Int) == (k1:Int))=false:=by simpa using mek1
 have bmek:((x:Int) == (k:Int))=false:=by simpa using mek
 obtain ⟨nx,yx⟩:=zx
 have ix:(x:Int)<(s.size:Int):=by omega
 have jx:(0:Int)≤(x:Int):=by omega
 obtain ⟨nq,yq⟩:=zq
 have iq:(q:Int)<(s.size:Int):=by omega
 have jq:(0:Int)≤(q:Int):=by omega
 go_enter Tryz.func33,Tryz.ntmps33
 go_wp2_with fail
 refine (H0 _).mono ?_
 rintro e w1 ⟨rfl,rfl⟩
 clear H0
 go_wp2_with fail
 refine (B0 _).mono ?_
 rintro e w1 ⟨rfl,rfl⟩
 clear B0
 go_wp2_with fail
 refine (B1 _).mono ?_
 rintro e w1 ⟨rfl,rfl⟩
 clear B1
 go_wp2_with fail
 refine (B2 _).mono ?_
 rintro e w1 ⟨rfl,rfl⟩
 clear B2
 go_wp2
 go_ret
 exact ⟨rfl,rfl⟩
set_option maxRecDepth 100000 in
set_option maxHeartbeats 1000000 in
theorem lElm0 (s:ByteArray) {k k1 x q q2:Nat} (w:World) (H0:(∀ u,Calls Tryz.prog 53 #[.string s,.int .i64 (k:Int)] u fun e w'=>e = .returned (.int .i64 (k:Int))∧w'=u)) (zk:∃ h:k<s.size,((s[k]'h).toNat:Int)=46) (wk:IntKind.i64.wrap ((k:Int)+1)=(k1:Int)) (B0:(∀ u,Calls Tryz.prog 53 #[.string s,.int .i64 (k1:Int)] u fun e w'=>e = .returned (.int .i64 (x:Int))∧w'=u)) (mek1:¬ (x:Int)=(k1:Int)) (mek:¬ (x:Int)=(k:Int)) (zx:∃ h:x<s.size,((s[x]'h).toNat:Int)=101) (wx:IntKind.i64.wrap ((x:Int)+1)=(q:Int)) (zq:∃ h:q<s.size,((s[q]'h).toNat:Int)=45) (wq:IntKind.i64.wrap ((q:Int)+1)=(q2:Int)) (B1:(∀ u,Calls Tryz.prog 32 #[.string s,.int .i64 (q2:Int)] u fun e w'=>e = .returned (.bool false)∧w'=u)) :
  Calls Tryz.prog 33 #[.string s,.int .i64 (k:Int)] w fun e w'=>e = .returned (.int .i64 (x:Int))∧w'=w:=by
 obtain ⟨nk,yk⟩:=zk
 have ik:(k:Int)<(s.size:Int):=by omega
 have jk:(0:Int)≤(k:Int):=by omega
 have bmek1:((x:Int) == (k1:Int))=false:=by simpa using mek1
 have bmek:((x:Int) == (k:Int))=false:=by simpa using mek
 obtain ⟨nx,yx⟩:=zx
 have ix:(x:Int)<(s.size:Int):=by omega
 have jx:(0:Int)≤(x:Int):=by omega
 obtain ⟨nq,yq⟩:=zq
 have iq:(q:Int)<(s.size:Int):=by omega
 have jq:(0:Int)≤(q:Int):=by omega
 go_enter Tryz.func33,Tryz.ntmps33
 go_wp2_with fail
 refine (H0 _).mono ?_
 rintro e w1 ⟨rfl,rfl⟩
 clear H0
 go_wp2_with fail
 refine (B0 _).mono ?_
 rintro e w1 ⟨rfl,rfl⟩
 clear B0
 go_wp2_with fail
 refine (B1 _).mono ?_
 rintro e w1 ⟨rfl,rfl⟩
 clear B1
 go_wp2
 go_ret
 exact ⟨rfl,rfl⟩
set_option maxRecDepth 100000 in
set_option maxHeartbeats 1000000 in
theorem lElm1 (s:ByteArray) {k k1 x q q2 r:Nat} (w:World) (H0:(∀ u,Calls Tryz.prog 53 #[.string s,.int .i64 (k:Int)] u fun e w'=>e = .returned (.int .i64 (k:Int))∧w'=u)) (zk:∃ h:k<s.size,((s[k]'h).toNat:Int)=46) (wk:IntKind.i64.wrap ((k:Int)+1)=(k1:Int)) (B0:(∀ u,Calls Tryz.prog 53 #[.string s,.int .i64 (k1:Int)] u fun e w'=>e = .returned (.int .i64 (x:Int))∧w'=u)) (mek1:¬ (x:Int)=(k1:Int)) (mek:¬ (x:Int)=(k:Int)) (zx:∃ h:x<s.size,((s[x]'h).toNat:Int)=101) (wx:IntKind.i64.wrap ((x:Int)+1)=(q:Int)) (zq:∃ h:q<s.size,((s[q]'h).toNat:Int)=45) (wq:IntKind.i64.wrap ((q:Int)+1)=(q2:Int)) (B1:(∀ u,Calls Tryz.prog 32 #[.string s,.int .i64 (q2:Int)] u fun e w'=>e = .returned (.bool true)∧w'=u)) (B2:(∀ u,Calls Tryz.prog 53 #[.string s,.int .i64 (q2:Int)] u fun e w'=>e = .returned (.int .i64 (r:Int))∧w'=u)) :
  Calls Tryz.prog 33 #[.string s,.int .i64 (k:Int)] w fun e w'=>e = .returned (.int .i64 (r:Int))∧w'=w:=by
 obtain ⟨nk,yk⟩:=zk
 have ik:(k:Int)<(s.size:Int):=by omega
 have jk:(0:Int)≤(k:Int):=by omega
 have bmek1:((x:Int) == (k1:Int))=false:=by simpa using mek1
 have bmek:((x:Int) == (k:Int))=false:=by simpa using mek
 obtain ⟨nx,yx⟩:=zx
 have ix:(x:Int)<(s.size:Int):=by omega
 have jx:(0:Int)≤(x:Int):=by omega
 obtain ⟨nq,yq⟩:=zq
 have iq:(q:Int)<(s.size:Int):=by omega
 have jq:(0:Int)≤(q:Int):=by omega
 go_enter Tryz.func33,Tryz.ntmps33
 go_wp2_with fail
 refine (H0 _).mono ?_
 rintro e w1 ⟨rfl,rfl⟩
 clear H0
 go_wp2_with fail
 refine (B0 _).mono ?_
 rintro e w1 ⟨rfl,rfl⟩
 clear B0
 go_wp2_with fail
 refine (B1 _).mono ?_
 rintro e w1 ⟨rfl,rfl⟩
 clear B1
 go_wp2_with fail
 refine (B2 _).mono ?_
 rintro e w1 ⟨rfl,rfl⟩
 clear B2
 go_wp2
 go_ret
 exact ⟨rfl,rfl⟩
set_option maxRecDepth 100000 in
set_option maxHeartbeats 1000000 in
theorem lEld0 (s:ByteArray) {k k1 x q:Nat} {D:Int} (w:World) (H0:(∀ u,Calls Tryz.prog 53 #[.string s,.int .i64 (k:Int)] u fun e w'=>e = .returned (.int .i64 (k:Int))∧w'=u)) (zk:∃ h:k<s.size,((s[k]'h).toNat:Int)=46) (wk:IntKind.i64.wrap ((k:Int)+1)=(k1:Int)) (B0:(∀ u,Calls Tryz.prog 53 #[.string s,.int .i64 (k1:Int)] u fun e w'=>e = .returned (.int .i64 (x:Int))∧w'=u)) (mek1:¬ (x:Int)=(k1:Int)) (mek:¬ (x:Int)=(k:Int)) (zx:∃ h:x<s.size,((s[x]'h).toNat:Int)=101) (wx:IntKind.i64.wrap ((x:Int)+1)=(q:Int)) (zq:∃ h:q<s.size,((s[q]'h).toNat:Int)=D) (c43:¬ D=43) (c45:¬ D=45) (B1:(∀ u,Calls Tryz.prog 32 #[.string s,.int .i64 (q:Int)] u fun e w'=>e = .returned (.bool false)∧w'=u)) :
  Calls Tryz.prog 33 #[.string s,.int .i64 (k:Int)] w fun e w'=>e = .returned (.int .i64 (x:Int))∧w'=w:=by
 obtain ⟨nk,yk⟩:=zk
 have ik:(k:Int)<(s.size:Int):=by omega
 have jk:(0:Int)≤(k:Int):=by omega
 have bmek1:((x:Int) == (k1:Int))=false:=by simpa using mek1
 have bmek:((x:Int) == (k:Int))=false:=by simpa using mek
 obtain ⟨nx,yx⟩:=zx
 have ix:(x:Int)<(s.size:Int):=by omega
 have jx:(0:Int)≤(x:Int):=by omega
 obtain ⟨nq,yq⟩:=zq
 have iq:(q:Int)<(s.size:Int):=by omega
 have jq:(0:Int)≤(q:Int):=by omega
 have bc43:(D == 43)=false:=by simpa using c43
 have bc45:(D == 45)=false:=by simpa using c45
 go_enter Tryz.func33,Tryz.ntmps33
 go_wp2_with fail
 refine (H0 _).mono ?_
 rintro e w1 ⟨rfl,rfl⟩
 clear H0
 go_wp2_with fail
 refine (B0 _).mono ?_
 rintro e w1 ⟨rfl,rfl⟩
 clear B0
 go_wp2_with fail
 refine (B1 _).mono ?_
 rintro e w1 ⟨rfl,rfl⟩
 clear B1
 go_wp2
 go_ret
 exact ⟨rfl,rfl⟩
set_option maxRecDepth 100000 in
set_option maxHeartbeats 1000000 in
theorem lEld1 (s:ByteArray) {k k1 x q r:Nat} {D:Int} (w:World) (H0:(∀ u,Calls Tryz.prog 53 #[.string s,.int .i64 (k:Int)] u fun e w'=>e = .returned (.int .i64 (k:Int))∧w'=u)) (zk:∃ h:k<s.size,((s[k]'h).toNat:Int)=46) (wk:IntKind.i64.wrap ((k:Int)+1)=(k1:Int)) (B0:(∀ u,Calls Tryz.prog 53 #[.string s,.int .i64 (k1:Int)] u fun e w'=>e = .returned (.int .i64 (x:Int))∧w'=u)) (mek1:¬ (x:Int)=(k1:Int)) (mek:¬ (x:Int)=(k:Int)) (zx:∃ h:x<s.size,((s[x]'h).toNat:Int)=101) (wx:IntKind.i64.wrap ((x:Int)+1)=(q:Int)) (zq:∃ h:q<s.size,((s[q]'h).toNat:Int)=D) (c43:¬ D=43) (c45:¬ D=45) (B1:(∀ u,Calls Tryz.prog 32 #[.string s,.int .i64 (q:Int)] u fun e w'=>e = .returned (.bool true)∧w'=u)) (B2:(∀ u,Calls Tryz.prog 53 #[.string s,.int .i64 (q:Int)] u fun e w'=>e = .returned (.int .i64 (r:Int))∧w'=u)) :
  Calls Tryz.prog 33 #[.string s,.int .i64 (k:Int)] w fun e w'=>e = .returned (.int .i64 (r:Int))∧w'=w:=by
 obtain ⟨nk,yk⟩:=zk
 have ik:(k:Int)<(s.size:Int):=by omega
 have jk:(0:Int)≤(k:Int):=by omega
 have bmek1:((x:Int) == (k1:Int))=false:=by simpa using mek1
 have bmek:((x:Int) == (k:Int))=false:=by simpa using mek
 obtain ⟨nx,yx⟩:=zx
 have ix:(x:Int)<(s.size:Int):=by omega
 have jx:(0:Int)≤(x:Int):=by omega
 obtain ⟨nq,yq⟩:=zq
 have iq:(q:Int)<(s.size:Int):=by omega
 have jq:(0:Int)≤(q:Int):=by omega
 have bc43:(D == 43)=false:=by simpa using c43
 have bc45:(D == 45)=false:=by simpa using c45
 go_enter Tryz.func33,Tryz.ntmps33
 go_wp2_with fail
 refine (H0 _).mono ?_
 rintro e w1 ⟨rfl,rfl⟩
 clear H0
 go_wp2_with fail
 refine (B0 _).mono ?_
 rintro e w1 ⟨rfl,rfl⟩
 clear B0
 go_wp2_with fail
 refine (B1 _).mono ?_
 rintro e w1 ⟨rfl,rfl⟩
 clear B1
 go_wp2_with fail
 refine (B2 _).mono ?_
 rintro e w1 ⟨rfl,rfl⟩
 clear B2
 go_wp2
 go_ret
 exact ⟨rfl,rfl⟩
set_option maxRecDepth 100000 in
set_option maxHeartbeats 1000000 in
theorem lEu0 (s:ByteArray) {k k1 x q:Nat} (w:World) (H0:(∀ u,Calls Tryz.prog 53 #[.string s,.int .i64 (k:Int)] u fun e w'=>e = .returned (.int .i64 (k:Int))∧w'=u)) (zk:∃ h:k<s.size,((s[k]'h).toNat:Int)=46) (wk:IntKind.i64.wrap ((k:Int)+1)=(k1:Int)) (B0:(∀ u,Calls Tryz.prog 53 #[.string s,.int .i64 (k1:Int)] u fun e w'=>e = .returned (.int .i64 (x:Int))∧w'=u)) (mek1:¬ (x:Int)=(k1:Int)) (mek:¬ (x:Int)=(k:Int)) (zx:∃ h:x<s.size,((s[x]'h).toNat:Int)=69) (wx:IntKind.i64.wrap ((x:Int)+1)=(q:Int)) (gq:¬ (q:Int)<(s.size:Int)) (B1:(∀ u,Calls Tryz.prog 32 #[.string s,.int .i64 (q:Int)] u fun e w'=>e = .returned (.bool false)∧w'=u)) :
  Calls Tryz.prog 33 #[.string s,.int .i64 (k:Int)] w fun e w'=>e = .returned (.int .i64 (x:Int))∧w'=w:=by
 obtain ⟨nk,yk⟩:=zk
 have ik:(k:Int)<(s.size:Int):=by omega
 have jk:(0:Int)≤(k:Int):=by omega
 have bmek1:((x:Int) == (k1:Int))=false:=by simpa using mek1
 have bmek:((x:Int) == (k:Int))=false:=by simpa using mek
 obtain ⟨nx,yx⟩:=zx
 have ix:(x:Int)<(s.size:Int):=by omega
 have jx:(0:Int)≤(x:Int):=by omega
 go_enter Tryz.func33,Tryz.ntmps33
 go_wp2_with fail
 refine (H0 _).mono ?_
 rintro e w1 ⟨rfl,rfl⟩
 clear H0
 go_wp2_with fail
 refine (B0 _).mono ?_
 rintro e w1 ⟨rfl,rfl⟩
 clear B0
 go_wp2_with fail
 refine (B1 _).mono ?_
 rintro e w1 ⟨rfl,rfl⟩
 clear B1
 go_wp2
 go_ret
 exact ⟨rfl,rfl⟩
set_option maxRecDepth 100000 in
set_option maxHeartbeats 1000000 in
theorem lEup0 (s:ByteArray) {k k1 x q q2:Nat} (w:World) (H0:(∀ u,Calls Tryz.prog 53 #[.string s,.int .i64 (k:Int)] u fun e w'=>e = .returned (.int .i64 (k:Int))∧w'=u)) (zk:∃ h:k<s.size,((s[k]'h).toNat:Int)=46) (wk:IntKind.i64.wrap ((k:Int)+1)=(k1:Int)) (B0:(∀ u,Calls Tryz.prog 53 #[.string s,.int .i64 (k1:Int)] u fun e w'=>e = .returned (.int .i64 (x:Int))∧w'=u)) (mek1:¬ (x:Int)=(k1:Int)) (mek:¬ (x:Int)=(k:Int)) (zx:∃ h:x<s.size,((s[x]'h).toNat:Int)=69) (wx:IntKind.i64.wrap ((x:Int)+1)=(q:Int)) (zq:∃ h:q<s.size,((s[q]'h).toNat:Int)=43) (wq:IntKind.i64.wrap ((q:Int)+1)=(q2:Int)) (B1:(∀ u,Calls Tryz.prog 32 #[.string s,.int .i64 (q2:Int)] u fun e w'=>e = .returned (.bool false)∧w'=u)) :
  Calls Tryz.prog 33 #[.string s,.int .i64 (k:Int)] w fun e w'=>e = .returned (.int .i64 (x:Int))∧w'=w:=by
 obtain ⟨nk,yk⟩:=zk
 have ik:(k:Int)<(s.size:Int):=by omega
 have jk:(0:Int)≤(k:Int):=by omega
 have bmek1:((x:Int) == (k1:Int))=false:=by simpa using mek1
 have bmek:((x:Int) == (k:Int))=false:=by simpa using mek
 obtain ⟨nx,yx⟩:=zx
 have ix:(x:Int)<(s.size:Int):=by omega
 have jx:(0:Int)≤(x:Int):=by omega
 obtain ⟨nq,yq⟩:=zq
 have iq:(q:Int)<(s.size:Int):=by omega
 have jq:(0:Int)≤(q:Int):=by omega
 go_enter Tryz.func33,Tryz.ntmps33
 go_wp2_with fail
 refine (H0 _).mono ?_
 rintro e w1 ⟨rfl,rfl⟩
 clear H0
 go_wp2_with fail
 refine (B0 _).mono ?_
 rintro e w1 ⟨rfl,rfl⟩
 clear B0
 go_wp2_with fail
 refine (B1 _).mono ?_
 rintro e w1 ⟨rfl,rfl⟩
 clear B1
 go_wp2
 go_ret
 exact ⟨rfl,rfl⟩
set_option maxRecDepth 100000 in
set_option maxHeartbeats 1000000 in
theorem lEup1 (s:ByteArray) {k k1 x q q2 r:Nat} (w:World) (H0:(∀ u,Calls Tryz.prog 53 #[.string s,.int .i64 (k:Int)] u fun e w'=>e = .returned (.int .i64 (k:Int))∧w'=u)) (zk:∃ h:k<s.size,((s[k]'h).toNat:Int)=46) (wk:IntKind.i64.wrap ((k:Int)+1)=(k1:Int)) (B0:(∀ u,Calls Tryz.prog 53 #[.string s,.int .i64 (k1:Int)] u fun e w'=>e = .returned (.int .i64 (x:Int))∧w'=u)) (mek1:¬ (x:Int)=(k1:Int)) (mek:¬ (x:Int)=(k:Int)) (zx:∃ h:x<s.size,((s[x]'h).toNat:Int)=69) (wx:IntKind.i64.wrap ((x:Int)+1)=(q:Int)) (zq:∃ h:q<s.size,((s[q]'h).toNat:Int)=43) (wq:IntKind.i64.wrap ((q:Int)+1)=(q2:Int)) (B1:(∀ u,Calls Tryz.prog 32 #[.string s,.int .i64 (q2:Int)] u fun e w'=>e = .returned (.bool true)∧w'=u)) (B2:(∀ u,Calls Tryz.prog 53 #[.string s,.int .i64 (q2:Int)] u fun e w'=>e = .returned (.int .i64 (r:Int))∧w'=u)) :
  Calls Tryz.prog 33 #[.string s,.int .i64 (k:Int)] w fun e w'=>e = .returned (.int .i64 (r:Int))∧w'=w:=by
 obtain ⟨nk,yk⟩:=zk
 have ik:(k:Int)<(s.size:Int):=by omega
 have jk:(0:Int)≤(k:Int):=by omega
 have bmek1:((x:Int) == (k1:Int))=false:=by simpa using mek1
 have bmek:((x:Int) == (k:Int))=false:=by simpa using mek
 obtain ⟨nx,yx⟩:=zx
 have ix:(x:Int)<(s.size:Int):=by omega
 have jx:(0:Int)≤(x:Int):=by omega
 obtain ⟨nq,yq⟩:=zq
 have iq:(q:Int)<(s.size:Int):=by omega
 have jq:(0:Int)≤(q:Int):=by omega
 go_enter Tryz.func33,Tryz.ntmps33
 go_wp2_with fail
 refine (H0 _).mono ?_
 rintro e w1 ⟨rfl,rfl⟩
 clear H0
 go_wp2_with fail
 refine (B0 _).mono ?_
 rintro e w1 ⟨rfl,rfl⟩
 clear B0
 go_wp2_with fail
 refine (B1 _).mono ?_
 rintro e w1 ⟨rfl,rfl⟩
 clear B1
 go_wp2_with fail
 refine (B2 _).mono ?_
 rintro e w1 ⟨rfl,rfl⟩
 clear B2
 go_wp2
 go_ret
 exact ⟨rfl,rfl⟩
set_option maxRecDepth 100000 in
set_option maxHeartbeats 1000000 in
theorem lEum0 (s:ByteArray) {k k1 x q q2:Nat} (w:World) (H0:(∀ u,Calls Tryz.prog 53 #[.string s,.int .i64 (k:Int)] u fun e w'=>e = .returned (.int .i64 (k:Int))∧w'=u)) (zk:∃ h:k<s.size,((s[k]'h).toNat:Int)=46) (wk:IntKind.i64.wrap ((k:Int)+1)=(k1:Int)) (B0:(∀ u,Calls Tryz.prog 53 #[.string s,.int .i64 (k1:Int)] u fun e w'=>e = .returned (.int .i64 (x:Int))∧w'=u)) (mek1:¬ (x:Int)=(k1:Int)) (mek:¬ (x:Int)=(k:Int)) (zx:∃ h:x<s.size,((s[x]'h).toNat:Int)=69) (wx:IntKind.i64.wrap ((x:Int)+1)=(q:Int)) (zq:∃ h:q<s.size,((s[q]'h).toNat:Int)=45) (wq:IntKind.i64.wrap ((q:Int)+1)=(q2:Int)) (B1:(∀ u,Calls Tryz.prog 32 #[.string s,.int .i64 (q2:Int)] u fun e w'=>e = .returned (.bool false)∧w'=u)) :
  Calls Tryz.prog 33 #[.string s,.int .i64 (k:Int)] w fun e w'=>e = .returned (.int .i64 (x:Int))∧w'=w:=by
 obtain ⟨nk,yk⟩:=zk
 have ik:(k:Int)<(s.size:Int):=by omega
 have jk:(0:Int)≤(k:Int):=by omega
 have bmek1:((x:Int) == (k1:Int))=false:=by simpa using mek1
 have bmek:((x:Int) == (k:Int))=false:=by simpa using mek
 obtain ⟨nx,yx⟩:=zx
 have ix:(x:Int)<(s.size:Int):=by omega
 have jx:(0:Int)≤(x:Int):=by omega
 obtain ⟨nq,yq⟩:=zq
 have iq:(q:Int)<(s.size:Int):=by omega
 have jq:(0:Int)≤(q:Int):=by omega
 go_enter Tryz.func33,Tryz.ntmps33
 go_wp2_with fail
 refine (H0 _).mono ?_
 rintro e w1 ⟨rfl,rfl⟩
 clear H0
 go_wp2_with fail
 refine (B0 _).mono ?_
 rintro e w1 ⟨rfl,rfl⟩
 clear B0
 go_wp2_with fail
 refine (B1 _).mono ?_
 rintro e w1 ⟨rfl,rfl⟩
 clear B1
 go_wp2
 go_ret
 exact ⟨rfl,rfl⟩
set_option maxRecDepth 100000 in
set_option maxHeartbeats 1000000 in
theorem lEum1 (s:ByteArray) {k k1 x q q2 r:Nat} (w:World) (H0:(∀ u,Calls Tryz.prog 53 #[.string s,.int .i64 (k:Int)] u fun e w'=>e = .returned (.int .i64 (k:Int))∧w'=u)) (zk:∃ h:k<s.size,((s[k]'h).toNat:Int)=46) (wk:IntKind.i64.wrap ((k:Int)+1)=(k1:Int)) (B0:(∀ u,Calls Tryz.prog 53 #[.string s,.int .i64 (k1:Int)] u fun e w'=>e = .returned (.int .i64 (x:Int))∧w'=u)) (mek1:¬ (x:Int)=(k1:Int)) (mek:¬ (x:Int)=(k:Int)) (zx:∃ h:x<s.size,((s[x]'h).toNat:Int)=69) (wx:IntKind.i64.wrap ((x:Int)+1)=(q:Int)) (zq:∃ h:q<s.size,((s[q]'h).toNat:Int)=45) (wq:IntKind.i64.wrap ((q:Int)+1)=(q2:Int)) (B1:(∀ u,Calls Tryz.prog 32 #[.string s,.int .i64 (q2:Int)] u fun e w'=>e = .returned (.bool true)∧w'=u)) (B2:(∀ u,Calls Tryz.prog 53 #[.string s,.int .i64 (q2:Int)] u fun e w'=>e = .returned (.int .i64 (r:Int))∧w'=u)) :
  Calls Tryz.prog 33 #[.string s,.int .i64 (k:Int)] w fun e w'=>e = .returned (.int .i64 (r:Int))∧w'=w:=by
 obtain ⟨nk,yk⟩:=zk
 have ik:(k:Int)<(s.size:Int):=by omega
 have jk:(0:Int)≤(k:Int):=by omega
 have bmek1:((x:Int) == (k1:Int))=false:=by simpa using mek1
 have bmek:((x:Int) == (k:Int))=false:=by simpa using mek
 obtain ⟨nx,yx⟩:=zx
 have ix:(x:Int)<(s.size:Int):=by omega
 have jx:(0:Int)≤(x:Int):=by omega
 obtain ⟨nq,yq⟩:=zq
 have iq:(q:Int)<(s.size:Int):=by omega
 have jq:(0:Int)≤(q:Int):=by omega
 go_enter Tryz.func33,Tryz.ntmps33
 go_wp2_with fail
 refine (H0 _).mono ?_
 rintro e w1 ⟨rfl,rfl⟩
 clear H0
 go_wp2_with fail
 refine (B0 _).mono ?_
 rintro e w1 ⟨rfl,rfl⟩
 clear B0
 go_wp2_with fail
 refine (B1 _).mono ?_
 rintro e w1 ⟨rfl,rfl⟩
 clear B1
 go_wp2_with fail
 refine (B2 _).mono ?_
 rintro e w1 ⟨rfl,rfl⟩
 clear B2
 go_wp2
 go_ret
 exact ⟨rfl,rfl⟩
set_option maxRecDepth 100000 in
set_option maxHeartbeats 1000000 in
theorem lEud0 (s:ByteArray) {k k1 x q:Nat} {D:Int} (w:World) (H0:(∀ u,Calls Tryz.prog 53 #[.string s,.int .i64 (k:Int)] u fun e w'=>e = .returned (.int .i64 (k:Int))∧w'=u)) (zk:∃ h:k<s.size,((s[k]'h).toNat:Int)=46) (wk:IntKind.i64.wrap ((k:Int)+1)=(k1:Int)) (B0:(∀ u,Calls Tryz.prog 53 #[.string s,.int .i64 (k1:Int)] u fun e w'=>e = .returned (.int .i64 (x:Int))∧w'=u)) (mek1:¬ (x:Int)=(k1:Int)) (mek:¬ (x:Int)=(k:Int)) (zx:∃ h:x<s.size,((s[x]'h).toNat:Int)=69) (wx:IntKind.i64.wrap ((x:Int)+1)=(q:Int)) (zq:∃ h:q<s.size,((s[q]'h).toNat:Int)=D) (c43:¬ D=43) (c45:¬ D=45) (B1:(∀ u,Calls Tryz.prog 32 #[.string s,.int .i64 (q:Int)] u fun e w'=>e = .returned (.bool false)∧w'=u)) :
  Calls Tryz.prog 33 #[.string s,.int .i64 (k:Int)] w fun e w'=>e = .returned (.int .i64 (x:Int))∧w'=w:=by
 obtain ⟨nk,yk⟩:=zk
 have ik:(k:Int)<(s.size:Int):=by omega
 have jk:(0:Int)≤(k:Int):=by omega
 have bmek1:((x:Int) == (k1:Int))=false:=by simpa using mek1
 have bmek:((x:Int) == (k:Int))=false:=by simpa using mek
 obtain ⟨nx,yx⟩:=zx
 have ix:(x:Int)<(s.size:Int):=by omega
 have jx:(0:Int)≤(x:Int):=by omega
 obtain ⟨nq,yq⟩:=zq
 have iq:(q:Int)<(s.size:Int):=by omega
 have jq:(0:Int)≤(q:Int):=by omega
 have bc43:(D == 43)=false:=by simpa using c43
 have bc45:(D == 45)=false:=by simpa using c45
 go_enter Tryz.func33,Tryz.ntmps33
 go_wp2_with fail
 refine (H0 _).mono ?_
 rintro e w1 ⟨rfl,rfl⟩
 clear H0
 go_wp2_with fail
 refine (B0 _).mono ?_
 rintro e w1 ⟨rfl,rfl⟩
 clear B0
 go_wp2_with fail
 refine (B1 _).mono ?_
 rintro e w1 ⟨rfl,rfl⟩
 clear B1
 go_wp2
 go_ret
 exact ⟨rfl,rfl⟩
set_option maxRecDepth 100000 in
set_option maxHeartbeats 1000000 in
theorem lEud1 (s:ByteArray) {k k1 x q r:Nat} {D:Int} (w:World) (H0:(∀ u,Calls Tryz.prog 53 #[.string s,.int .i64 (k:Int)] u fun e w'=>e = .returned (.int .i64 (k:Int))∧w'=u)) (zk:∃ h:k<s.size,((s[k]'h).toNat:Int)=46) (wk:IntKind.i64.wrap ((k:Int)+1)=(k1:Int)) (B0:(∀ u,Calls Tryz.prog 53 #[.string s,.int .i64 (k1:Int)] u fun e w'=>e = .returned (.int .i64 (x:Int))∧w'=u)) (mek1:¬ (x:Int)=(k1:Int)) (mek:¬ (x:Int)=(k:Int)) (zx:∃ h:x<s.size,((s[x]'h).toNat:Int)=69) (wx:IntKind.i64.wrap ((x:Int)+1)=(q:Int)) (zq:∃ h:q<s.size,((s[q]'h).toNat:Int)=D) (c43:¬ D=43) (c45:¬ D=45) (B1:(∀ u,Calls Tryz.prog 32 #[.string s,.int .i64 (q:Int)] u fun e w'=>e = .returned (.bool true)∧w'=u)) (B2:(∀ u,Calls Tryz.prog 53 #[.string s,.int .i64 (q:Int)] u fun e w'=>e = .returned (.int .i64 (r:Int))∧w'=u)) :
  Calls Tryz.prog 33 #[.string s,.int .i64 (k:Int)] w fun e w'=>e = .returned (.int .i64 (r:Int))∧w'=w:=by
 obtain ⟨nk,yk⟩:=zk
 have ik:(k:Int)<(s.size:Int):=by omega
 have jk:(0:Int)≤(k:Int):=by omega
 have bmek1:((x:Int) == (k1:Int))=false:=by simpa using mek1
 have bmek:((x:Int) == (k:Int))=false:=by simpa using mek
 obtain ⟨nx,yx⟩:=zx
 have ix:(x:Int)<(s.size:Int):=by omega
 have jx:(0:Int)≤(x:Int):=by omega
 obtain ⟨nq,yq⟩:=zq
 have iq:(q:Int)<(s.size:Int):=by omega
 have jq:(0:Int)≤(q:Int):=by omega
 have bc43:(D == 43)=false:=by simpa using c43
 have bc45:(D == 45)=false:=by simpa using c45
 go_enter Tryz.func33,Tryz.ntmps33
 go_wp2_with fail
 refine (H0 _).mono ?_
 rintro e w1 ⟨rfl,rfl⟩
 clear H0
 go_wp2_with fail
 refine (B0 _).mono ?_
 rintro e w1 ⟨rfl,rfl⟩
 clear B0
 go_wp2_with fail
 refine (B1 _).mono ?_
 rintro e w1 ⟨rfl,rfl⟩
 clear B1
 go_wp2_with fail
 refine (B2 _).mono ?_
 rintro e w1 ⟨rfl,rfl⟩
 clear B2
 go_wp2
 go_ret
 exact ⟨rfl,rfl⟩
end Go.Proofs.YtgdilnljjgdinaaGreatDoor
