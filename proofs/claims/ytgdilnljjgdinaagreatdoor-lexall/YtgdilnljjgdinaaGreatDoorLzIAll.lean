import Derived.Test.YtgdilnljjgdinaaGreatDoorLzGAll
import Derived.Test.YtgdilnljjgdinaaGreatDoorLxNAll
import Derived.Test.YtgdilnljjgdinaaGreatDoorLyNAll
namespace Go.Proofs.YtgdilnljjgdinaaGreatDoor
open Go.RowKit Go.Shelf
theorem colonD (s:ByteArray) (k:Nat) (w:World) (hk:k≤s.size) (hs:s.size≤100000000) :
  Calls Tryz.prog 64 #[.string s,.int .i64 (k:Int)] w fun e w'=>e = .returned (.bool (colL (s.data.toList.drop k)))∧w'=w:=by
 have HG:=fun u=>GapD s k u hk (by omega)
 have hcl:colL (s.data.toList.drop k)=([58]:List UInt8).isPrefixOf (s.data.toList.drop (k+gpN (s.data.toList.drop k))):=by
  unfold colL;rw [← drop_gp,List.drop_drop]
 rw [hcl]
 generalize k+gpN (s.data.toList.drop k)=g at *
 clear hcl
 rcases (by omega:s.size≤g∨g<s.size) with h1|h1
 ·rw [drop_none h1,show ([58]:List UInt8).isPrefixOf []=false from rfl]
  have gi:¬ (g:Int)<(s.size:Int):=by omega
  go_enter Tryz.func64,Tryz.ntmps64
  go_wp2_with fail
  refine (HG _).mono ?_
  rintro e w1 ⟨rfl,rfl⟩
  go_wp2
  go_ret
  exact ⟨rfl,rfl⟩
 ·have hby:=getD_get h1
  rw [drop_byte h1,pf1]
  have gi:(g:Int)<(s.size:Int):=by omega
  have g0:(0:Int)≤(g:Int):=by omega
  by_cases h:s.data.toList.getD g 0=58
  ·rw [h] at hby ⊢
   rw [show (((58:UInt8).toNat:Nat):Int)=58 from rfl] at hby
   rw [show ((58:UInt8) == 58)=true from rfl]
   clear h
   go_enter Tryz.func64,Tryz.ntmps64
   go_wp2_with fail
   refine (HG _).mono ?_
   rintro e w1 ⟨rfl,rfl⟩
   go_wp2
   go_ret
   exact ⟨rfl,rfl⟩
  ·rw [beq_eq_false_iff_ne.2 (show (58:UInt8)≠s.data.toList.getD g 0 from fun e=>h e.symm)]
   have n1:¬ ((s.data.toList.getD g 0).toNat:Int)=58:=fun e=>h (nat_eq (d:=58) e)
   generalize ((s.data.toList.getD g 0).toNat:Int)=C at *
   have b1:(C == 58)=false:=by simpa using n1
   clear h
   go_enter Tryz.func64,Tryz.ntmps64
   go_wp2_with fail
   refine (HG _).mono ?_
   rintro e w1 ⟨rfl,rfl⟩
   go_wp2
   go_ret
   exact ⟨rfl,rfl⟩
def sgF:List UInt8→Nat × Nat
 | []=>(0,0)
 | c::t=>if c=43 then (3,1) else if c=45 then (4,1) else if c=58 then (5,1) else if c=60 then (6,if t.head? = some 61 then 2 else 1) else if c=62 then (7,if t.head? = some 61 then 2 else 1)
  else if c=61 then (if t.head? = some 60 then (6,2) else if t.head? = some 62 then (7,2) else (8,1)) else (0,0)
theorem pf2 (m n c:UInt8) (t:List UInt8):([m,n]:List UInt8).isPrefixOf (c::t)=((m == c) && (t.head? == some n)):=by
 cases t with
 | nil=>simp [List.isPrefixOf]
 | cons d t =>
  simp only [List.isPrefixOf,List.head?_cons,Bool.and_true]
  congr 1
  by_cases h:n=d
  ·subst h;simp
  ·rw [beq_eq_false_iff_ne.2 h]
   exact (beq_eq_false_iff_ne.2 fun e=>h (Option.some.inj e).symm).symm
set_option maxRecDepth 100000 in
set_option maxHeartbeats 1000000 in
theorem sg43n (s:ByteArray) {k q:Nat} (w:World) (zk:∃ h:k<s.size,((s[k]'h).toNat:Int)=43) (wk:IntKind.i64.wrap ((k:Int)+1)=(q:Int)) (gq:¬ (q:Int)<(s.size:Int)) :
  Calls Tryz.prog 31 #[.string s,.int .i64 (k:Int)] w fun e w'=>e = .returned (.tuple #[.int .i64 3,.int .i64 1])∧w'=w:=by
 obtain ⟨nk,yk⟩:=zk
 have ik:(k:Int)<(s.size:Int):=by omega
 have jk:(0:Int)≤(k:Int):=by omega
 go_enter Tryz.func31,Tryz.ntmps31
 go_wp2
 go_ret2
 exact ⟨rfl,rfl⟩
set_option maxRecDepth 100000 in
set_option maxHeartbeats 1000000 in
theorem sg43s (s:ByteArray) {k q:Nat} {D:Int} (w:World) (zk:∃ h:k<s.size,((s[k]'h).toNat:Int)=43) (wk:IntKind.i64.wrap ((k:Int)+1)=(q:Int)) (zq:∃ h:q<s.size,((s[q]'h).toNat:Int)=D) :
  Calls Tryz.prog 31 #[.string s,.int .i64 (k:Int)] w fun e w'=>e = .returned (.tuple #[.int .i64 3,.int .i64 1])∧w'=w:=by
 obtain ⟨nk,yk⟩:=zk
 have ik:(k:Int)<(s.size:Int):=by omega
 have jk:(0:Int)≤(k:Int):=by omega
 obtain ⟨nq,yq⟩:=zq
 have iq:(q:Int)<(s.size:Int):=by omega
 have jq:(0:Int)≤(q:Int):=by omega
 go_enter Tryz.func31,Tryz.ntmps31
 go_wp2
 go_ret2
 exact ⟨rfl,rfl⟩
set_option maxRecDepth 100000 in
set_option maxHeartbeats 1000000 in
theorem sg45n (s:ByteArray) {k q:Nat} (w:World) (zk:∃ h:k<s.size,((s[k]'h).toNat:Int)=45) (wk:IntKind.i64.wrap ((k:Int)+1)=(q:Int)) (gq:¬ (q:Int)<(s.size:Int)) :
  Calls Tryz.prog 31 #[.string s,.int .i64 (k:Int)] w fun e w'=>e = .returned (.tuple #[.int .i64 4,.int .i64 1])∧w'=w:=by
 obtain ⟨nk,yk⟩:=zk
 have ik:(k:Int)<(s.size:Int):=by omega
 have jk:(0:Int)≤(k:Int):=by omega
 go_enter Tryz.func31,Tryz.ntmps31
 go_wp2
 go_ret2
 exact ⟨rfl,rfl⟩
set_option maxRecDepth 100000 in
set_option maxHeartbeats 1000000 in
theorem sg45s (s:ByteArray) {k q:Nat} {D:Int} (w:World) (zk:∃ h:k<s.size,((s[k]'h).toNat:Int)=45) (wk:IntKind.i64.wrap ((k:Int)+1)=(q:Int)) (zq:∃ h:q<s.size,((s[q]'h).toNat:Int)=D) :
  Calls Tryz.prog 31 #[.string s,.int .i64 (k:Int)] w fun e w'=>e = .returned (.tuple #[.int .i64 4,.int .i64 1])∧w'=w:=by
 obtain ⟨nk,yk⟩:=zk
 have ik:(k:Int)<(s.size:Int):=by omega
 have jk:(0:Int)≤(k:Int):=by omega
 obtain ⟨nq,yq⟩:=zq
 have iq:(q:Int)<(s.size:Int):=by omega
 have jq:(0:Int)≤(q:Int):=by omega
 go_enter Tryz.func31,Tryz.ntmps31
 go_wp2
 go_ret2
 exact ⟨rfl,rfl⟩
set_option maxRecDepth 100000 in
set_option maxHeartbeats 1000000 in
theorem sg58n (s:ByteArray) {k q:Nat} (w:World) (zk:∃ h:k<s.size,((s[k]'h).toNat:Int)=58) (wk:IntKind.i64.wrap ((k:Int)+1)=(q:Int)) (gq:¬ (q:Int)<(s.size:Int)) :
  Calls Tryz.prog 31 #[.string s,.int .i64 (k:Int)] w fun e w'=>e = .returned (.tuple #[.int .i64 5,.int .i64 1])∧w'=w:=by
 obtain ⟨nk,yk⟩:=zk
 have ik:(k:Int)<(s.size:Int):=by omega
 have jk:(0:Int)≤(k:Int):=by omega
 go_enter Tryz.func31,Tryz.ntmps31
 go_wp2
 go_ret2
 exact ⟨rfl,rfl⟩
set_option maxRecDepth 100000 in
set_option maxHeartbeats 1000000 in
theorem sg58s (s:ByteArray) {k q:Nat} {D:Int} (w:World) (zk:∃ h:k<s.size,((s[k]'h).toNat:Int)=58) (wk:IntKind.i64.wrap ((k:Int)+1)=(q:Int)) (zq:∃ h:q<s.size,((s[q]'h).toNat:Int)=D) :
  Calls Tryz.prog 31 #[.string s,.int .i64 (k:Int)] w fun e w'=>e = .returned (.tuple #[.int .i64 5,.int .i64 1])∧w'=w:=by
 obtain ⟨nk,yk⟩:=zk
 have ik:(k:Int)<(s.size:Int):=by omega
 have jk:(0:Int)≤(k:Int):=by omega
 obtain ⟨nq,yq⟩:=zq
 have iq:(q:Int)<(s.size:Int):=by omega
 have jq:(0:Int)≤(q:Int):=by omega
 go_enter Tryz.func31,Tryz.ntmps31
 go_wp2
 go_ret2
 exact ⟨rfl,rfl⟩
set_option maxRecDepth 100000 in
set_option maxHeartbeats 1000000 in
theorem sgOn (s:ByteArray) {k q:Nat} {C :Int} (w:World) (zk:∃ h:k<s.size,((s[k]'h).toNat:Int)=C) (c43:¬ C=43) (c45:¬ C=45) (c58:¬ C=58) (c60:¬ C=60) (c61:¬ C=61) (c62:¬ C=62) (wk:IntKind.i64.wrap ((k:Int)+1)=(q:Int)) (gq:¬ (q:Int)<(s.size:Int)) :
  Calls Tryz.prog 31 #[.string s,.int .i64 (k:Int)] w fun e w'=>e = .returned (.tuple #[.int .i64 0,.int .i64 0])∧w'=w:=by
 obtain ⟨nk,yk⟩:=zk
 have ik:(k:Int)<(s.size:Int):=by omega
 have jk:(0:Int)≤(k:Int):=by omega
 have b43:(C == 43)=false:=by simpa using c43
 have b45:(C == 45)=false:=by simpa using c45
 have b58:(C == 58)=false:=by simpa using c58
 have b60:(C == 60)=false:=by simpa using c60
 have b61:(C == 61)=false:=by simpa using c61
 have b62:(C == 62)=false:=by simpa using c62
 go_enter Tryz.func31,Tryz.ntmps31
 go_wp2
 go_ret2
 exact ⟨rfl,rfl⟩
set_option maxRecDepth 100000 in
set_option maxHeartbeats 1000000 in
theorem sgOs (s:ByteArray) {k q:Nat} {C D:Int} (w:World) (zk:∃ h:k<s.size,((s[k]'h).toNat:Int)=C) (c43:¬ C=43) (c45:¬ C=45) (c58:¬ C=58) (c60:¬ C=60) (c61:¬ C=61) (c62:¬ C=62) (wk:IntKind.i64.wrap ((k:Int)+1)=(q:Int)) (zq:∃ h:q<s.size,((s[q]'h).toNat:Int)=D) :
  Calls Tryz.prog 31 #[.string s,.int .i64 (k:Int)] w fun e w'=>e = .returned (.tuple #[.int .i64 0,.int .i64 0])∧w'=w:=by
 obtain ⟨nk,yk⟩:=zk
 have ik:(k:Int)<(s.size:Int):=by omega
 have jk:(0:Int)≤(k:Int):=by omega
 have b43:(C == 43)=false:=by simpa using c43
 have b45:(C == 45)=false:=by simpa using c45
 have b58:(C == 58)=false:=by simpa using c58
 have b60:(C == 60)=false:=by simpa using c60
 have b61:(C == 61)=false:=by simpa using c61
 have b62:(C == 62)=false:=by simpa using c62
 obtain ⟨nq,yq⟩:=zq
 have iq:(q:Int)<(s.size:Int):=by omega
 have jq:(0:Int)≤(q:Int):=by omega
 go_enter Tryz.func31,Tryz.ntmps31
 go_wp2
 go_ret2
 exact ⟨rfl,rfl⟩
set_option maxRecDepth 100000 in
set_option maxHeartbeats 1000000 in
theorem sg60n (s:ByteArray) {k q:Nat} (w:World) (zk:∃ h:k<s.size,((s[k]'h).toNat:Int)=60) (wk:IntKind.i64.wrap ((k:Int)+1)=(q:Int)) (gq:¬ (q:Int)<(s.size:Int)) :
  Calls Tryz.prog 31 #[.string s,.int .i64 (k:Int)] w fun e w'=>e = .returned (.tuple #[.int .i64 6,.int .i64 1])∧w'=w:=by
 obtain ⟨nk,yk⟩:=zk
 have ik:(k:Int)<(s.size:Int):=by omega
 have jk:(0:Int)≤(k:Int):=by omega
 go_enter Tryz.func31,Tryz.ntmps31
 go_wp2
 go_ret2
 exact ⟨rfl,rfl⟩
set_option maxRecDepth 100000 in
set_option maxHeartbeats 1000000 in
theorem sg60y (s:ByteArray) {k q:Nat} (w:World) (zk:∃ h:k<s.size,((s[k]'h).toNat:Int)=60) (wk:IntKind.i64.wrap ((k:Int)+1)=(q:Int)) (zq:∃ h:q<s.size,((s[q]'h).toNat:Int)=61) :
  Calls Tryz.prog 31 #[.string s,.int .i64 (k:Int)] w fun e w'=>e = .returned (.tuple #[.int .i64 6,.int .i64 2])∧w'=w:=by
 obtain ⟨nk,yk⟩:=zk
 have ik:(k:Int)<(s.size:Int):=by omega
 have jk:(0:Int)≤(k:Int):=by omega
 obtain ⟨nq,yq⟩:=zq
 have iq:(q:Int)<(s.size:Int):=by omega
 have jq:(0:Int)≤(q:Int):=by omega
 go_enter Tryz.func31,Tryz.ntmps31
 go_wp2
 go_ret2
 exact ⟨rfl,rfl⟩
set_option maxRecDepth 100000 in
set_option maxHeartbeats 1000000 in
theorem sg60s (s:ByteArray) {k q:Nat} {D:Int} (w:World) (zk:∃ h:k<s.size,((s[k]'h).toNat:Int)=60) (wk:IntKind.i64.wrap ((k:Int)+1)=(q:Int)) (zq:∃ h:q<s.size,((s[q]'h).toNat:Int)=D) (d61:¬ D=61) :
  Calls Tryz.prog 31 #[.string s,.int .i64 (k:Int)] w fun e w'=>e = .returned (.tuple #[.int .i64 6,.int .i64 1])∧w'=w:=by
 obtain ⟨nk,yk⟩:=zk
 have ik:(k:Int)<(s.size:Int):=by omega
 have jk:(0:Int)≤(k:Int):=by omega
 obtain ⟨nq,yq⟩:=zq
 have iq:(q:Int)<(s.size:Int):=by omega
 have jq:(0:Int)≤(q:Int):=by omega
 have e61:(D == 61)=false:=by simpa using d61
 go_enter Tryz.func31,Tryz.ntmps31
 go_wp2
 go_ret2
 exact ⟨rfl,rfl⟩
set_option maxRecDepth 100000 in
set_option maxHeartbeats 1000000 in
theorem sg62n (s:ByteArray) {k q:Nat} (w:World) (zk:∃ h:k<s.size,((s[k]'h).toNat:Int)=62) (wk:IntKind.i64.wrap ((k:Int)+1)=(q:Int)) (gq:¬ (q:Int)<(s.size:Int)) :
  Calls Tryz.prog 31 #[.string s,.int .i64 (k:Int)] w fun e w'=>e = .returned (.tuple #[.int .i64 7,.int .i64 1])∧w'=w:=by
 obtain ⟨nk,yk⟩:=zk
 have ik:(k:Int)<(s.size:Int):=by omega
 have jk:(0:Int)≤(k:Int):=by omega
 go_enter Tryz.func31,Tryz.ntmps31
 go_wp2
 go_ret2
 exact ⟨rfl,rfl⟩
set_option maxRecDepth 100000 in
set_option maxHeartbeats 1000000 in
theorem sg62y (s:ByteArray) {k q:Nat} (w:World) (zk:∃ h:k<s.size,((s[k]'h).toNat:Int)=62) (wk:IntKind.i64.wrap ((k:Int)+1)=(q:Int)) (zq:∃ h:q<s.size,((s[q]'h).toNat:Int)=61) :
  Calls Tryz.prog 31 #[.string s,.int .i64 (k:Int)] w fun e w'=>e = .returned (.tuple #[.int .i64 7,.int .i64 2])∧w'=w:=by
 obtain ⟨nk,yk⟩:=zk
 have ik:(k:Int)<(s.size:Int):=by omega
 have jk:(0:Int)≤(k:Int):=by omega
 obtain ⟨nq,yq⟩:=zq
 have iq:(q:Int)<(s.size:Int):=by omega
 have jq:(0:Int)≤(q:Int):=by omega
 go_enter Tryz.func31,Tryz.ntmps31
 go_wp2
 go_ret2
 exact ⟨rfl,rfl⟩
set_option maxRecDepth 100000 in
set_option maxHeartbeats 1000000 in
theorem sg62s (s:ByteArray) {k q:Nat} {D:Int} (w:World) (zk:∃ h:k<s.size,((s[k]'h).toNat:Int)=62) (wk:IntKind.i64.wrap ((k:Int)+1)=(q:Int)) (zq:∃ h:q<s.size,((s[q]'h).toNat:Int)=D) (d61:¬ D=61) :
  Calls Tryz.prog 31 #[.string s,.int .i64 (k:Int)] w fun e w'=>e = .returned (.tuple #[.int .i64 7,.int .i64 1])∧w'=w:=by
 obtain ⟨nk,yk⟩:=zk
 have ik:(k:Int)<(s.size:Int):=by omega
 have jk:(0:Int)≤(k:Int):=by omega
 obtain ⟨nq,yq⟩:=zq
 have iq:(q:Int)<(s.size:Int):=by omega
 have jq:(0:Int)≤(q:Int):=by omega
 have e61:(D == 61)=false:=by simpa using d61
 go_enter Tryz.func31,Tryz.ntmps31
 go_wp2
 go_ret2
 exact ⟨rfl,rfl⟩
set_option maxRecDepth 100000 in
set_option maxHeartbeats 1000000 in
theorem sg61n (s:ByteArray) {k q:Nat} (w:World) (zk:∃ h:k<s.size,((s[k]'h).toNat:Int)=61) (wk:IntKind.i64.wrap ((k:Int)+1)=(q:Int)) (gq:¬ (q:Int)<(s.size:Int)) :
  Calls Tryz.prog 31 #[.string s,.int .i64 (k:Int)] w fun e w'=>e = .returned (.tuple #[.int .i64 8,.int .i64 1])∧w'=w:=by
 obtain ⟨nk,yk⟩:=zk
 have ik:(k:Int)<(s.size:Int):=by omega
 have jk:(0:Int)≤(k:Int):=by omega
 go_enter Tryz.func31,Tryz.ntmps31
 go_wp2
 go_ret2
 exact ⟨rfl,rfl⟩
set_option maxRecDepth 100000 in
set_option maxHeartbeats 1000000 in
theorem sg61a (s:ByteArray) {k q:Nat} (w:World) (zk:∃ h:k<s.size,((s[k]'h).toNat:Int)=61) (wk:IntKind.i64.wrap ((k:Int)+1)=(q:Int)) (zq:∃ h:q<s.size,((s[q]'h).toNat:Int)=60) :
  Calls Tryz.prog 31 #[.string s,.int .i64 (k:Int)] w fun e w'=>e = .returned (.tuple #[.int .i64 6,.int .i64 2])∧w'=w:=by
 obtain ⟨nk,yk⟩:=zk
 have ik:(k:Int)<(s.size:Int):=by omega
 have jk:(0:Int)≤(k:Int):=by omega
 obtain ⟨nq,yq⟩:=zq
 have iq:(q:Int)<(s.size:Int):=by omega
 have jq:(0:Int)≤(q:Int):=by omega
 go_enter Tryz.func31,Tryz.ntmps31
 go_wp2
 go_ret2
 exact ⟨rfl,rfl⟩
set_option maxRecDepth 100000 in
set_option maxHeartbeats 1000000 in
theorem sg61b (s:ByteArray) {k q:Nat} (w:World) (zk:∃ h:k<s.size,((s[k]'h).toNat:Int)=61) (wk:IntKind.i64.wrap ((k:Int)+1)=(q:Int)) (zq:∃ h:q<s.size,((s[q]'h).toNat:Int)=62) :
  Calls Tryz.prog 31 #[.string s,.int .i64 (k:Int)] w fun e w'=>e = .returned (.tuple #[.int .i64 7,.int .i64 2])∧w'=w:=by
 obtain ⟨nk,yk⟩:=zk
 have ik:(k:Int)<(s.size:Int):=by omega
 have jk:(0:Int)≤(k:Int):=by omega
 obtain ⟨nq,yq⟩:=zq
 have iq:(q:Int)<(s.size:Int):=by omega
 have jq:(0:Int)≤(q:Int):=by omega
 go_enter Tryz.func31,Tryz.ntmps31
 go_wp2
 go_ret2
 exact ⟨rfl,rfl⟩
set_option maxRecDepth 100000 in
set_option maxHeartbeats 1000000 in
theorem sg61s (s:ByteArray) {k q:Nat} {D:Int} (w:World) (zk:∃ h:k<s.size,((s[k]'h).toNat:Int)=61) (wk:IntKind.i64.wrap ((k:Int)+1)=(q:Int)) (zq:∃ h:q<s.size,((s[q]'h).toNat:Int)=D) (d60:¬ D=60) (d62:¬ D=62) :
  Calls Tryz.prog 31 #[.string s,.int .i64 (k:Int)] w fun e w'=>e = .returned (.tuple #[.int .i64 8,.int .i64 1])∧w'=w:=by
 obtain ⟨nk,yk⟩:=zk
 have ik:(k:Int)<(s.size:Int):=by omega
 have jk:(0:Int)≤(k:Int):=by omega
 obtain ⟨nq,yq⟩:=zq
 have iq:(q:Int)<(s.size:Int):=by omega
 have jq:(0:Int)≤(q:Int):=by omega
 have e60:(D == 60)=false:=by simpa using d60
 have e62:(D == 62)=false:=by simpa using d62
 go_enter Tryz.func31,Tryz.ntmps31
 go_wp2
 go_ret2
 exact ⟨rfl,rfl⟩
theorem signD5 (s:ByteArray) (k:Nat) (w:World) (hk:k<s.size) (hs:s.size≤100000000) :
  Calls Tryz.prog 31 #[.string s,.int .i64 (k:Int)] w fun e w'=>e = .returned (.tuple #[.int .i64 ((sgF (s.data.toList.drop k)).1:Nat),.int .i64 ((sgF (s.data.toList.drop k)).2:Nat)])∧w'=w:=by
 have hb:=getD_get hk
 have wk:IntKind.i64.wrap ((k:Int)+1)=((k+1:Nat):Int):=by rw [IntKind.wrap_i64];omega
 rw [drop_byte hk]
 obtain ⟨c,hc⟩:∃ c,s.data.toList.getD k 0=c:=⟨_,rfl⟩
 rw [hc] at hb ⊢
 have nx:(s.size≤k+1∧(s.data.toList.drop (k+1)).head? = none)∨∃ (h:k+1<s.size) (d:UInt8),((s[k+1]'h).toNat:Int)=(d.toNat:Int)∧(s.data.toList.drop (k+1)).head? = some d:=by
  rcases (by omega:s.size≤k+1∨k+1<s.size) with h|h
  ·exact .inl ⟨h,by rw [drop_none h];rfl⟩
  ·exact .inr ⟨h,_,getD_get h,by rw [drop_byte h];rfl⟩
 generalize s.data.toList.drop (k+1)=t at *
 clear hc
 by_cases c43:c=43
 ·subst c43
  have zk:∃ h:k<s.size,((s[k]'h).toNat:Int)=43:=⟨hk,hb.trans (by decide)⟩
  rcases nx with ⟨h,hh⟩|⟨h,d,hd,hh⟩
  ·exact sg43n s w zk wk (by omega)
  ·exact sg43s s w zk wk ⟨h,hd⟩
 by_cases c45:c=45
 ·subst c45
  have zk:∃ h:k<s.size,((s[k]'h).toNat:Int)=45:=⟨hk,hb.trans (by decide)⟩
  rcases nx with ⟨h,hh⟩|⟨h,d,hd,hh⟩
  ·exact sg45n s w zk wk (by omega)
  ·exact sg45s s w zk wk ⟨h,hd⟩
 by_cases c58:c=58
 ·subst c58
  have zk:∃ h:k<s.size,((s[k]'h).toNat:Int)=58:=⟨hk,hb.trans (by decide)⟩
  rcases nx with ⟨h,hh⟩|⟨h,d,hd,hh⟩
  ·exact sg58n s w zk wk (by omega)
  ·exact sg58s s w zk wk ⟨h,hd⟩
 by_cases c60:c=60
 ·subst c60
  have zk:∃ h:k<s.size,((s[k]'h).toNat:Int)=60:=⟨hk,hb.trans (by decide)⟩
  rcases nx with ⟨h,hh⟩|⟨h,d,hd,hh⟩
  ·rw [show sgF (60::t)=(6,1) by simp [sgF,hh]]
   exact sg60n s w zk wk (by omega)
  ·by_cases d61:d=61
   ·subst d61
    rw [show sgF (60::t)=(6,2) by simp [sgF,hh]]
    exact sg60y s w zk wk ⟨h,hd.trans (by decide)⟩
   ·rw [show sgF (60::t)=(6,1) by simp [sgF,hh,d61]]
    exact sg60s s w zk wk ⟨h,hd⟩ (fun e=>d61 (nat_eq (d:=61) e))
 by_cases c62:c=62
 ·subst c62
  have zk:∃ h:k<s.size,((s[k]'h).toNat:Int)=62:=⟨hk,hb.trans (by decide)⟩
  rcases nx with ⟨h,hh⟩|⟨h,d,hd,hh⟩
  ·rw [show sgF (62::t)=(7,1) by simp [sgF,hh]]
   exact sg62n s w zk wk (by omega)
  ·by_cases d61:d=61
   ·subst d61
    rw [show sgF (62::t)=(7,2) by simp [sgF,hh]]
    exact sg62y s w zk wk ⟨h,hd.trans (by decide)⟩
   ·rw [show sgF (62::t)=(7,1) by simp [sgF,hh,d61]]
    exact sg62s s w zk wk ⟨h,hd⟩ (fun e=>d61 (nat_eq (d:=61) e))
 by_cases c61:c=61
 ·subst c61
  have zk:∃ h:k<s.size,((s[k]'h).toNat:Int)=61:=⟨hk,hb.trans (by decide)⟩
  rcases nx with ⟨h,hh⟩|⟨h,d,hd,hh⟩
  ·rw [show sgF (61::t)=(8,1) by simp [sgF,hh]]
   exact sg61n s w zk wk (by omega)
  ·by_cases d60:d=60
   ·subst d60
    rw [show sgF (61::t)=(6,2) by simp [sgF,hh]]
    exact sg61a s w zk wk ⟨h,hd.trans (by decide)⟩
   ·by_cases d62:d=62
    ·subst d62
     rw [show sgF (61::t)=(7,2) by simp [sgF,hh]]
     exact sg61b s w zk wk ⟨h,hd.trans (by decide)⟩
    ·rw [show sgF (61::t)=(8,1) by simp [sgF,hh,d60,d62]]
     exact sg61s s w zk wk ⟨h,hd⟩ (fun e=>d60 (nat_eq (d:=60) e)) (fun e=>d62 (nat_eq (d:=62) e))
 rw [show sgF (c::t)=(0,0) by simp [sgF,c43,c45,c58,c60,c61,c62]]
 have zk:∃ h:k<s.size,((s[k]'h).toNat:Int)=(c.toNat:Int):=⟨hk,hb⟩
 rcases nx with ⟨h,hh⟩|⟨h,d,hd,hh⟩
 ·exact sgOn s w zk (fun e=>c43 (nat_eq (d:=43) e)) (fun e=>c45 (nat_eq (d:=45) e)) (fun e=>c58 (nat_eq (d:=58) e)) (fun e=>c60 (nat_eq (d:=60) e)) (fun e=>c61 (nat_eq (d:=61) e)) (fun e=>c62 (nat_eq (d:=62) e)) wk (by omega)
 ·exact sgOs s w zk (fun e=>c43 (nat_eq (d:=43) e)) (fun e=>c45 (nat_eq (d:=45) e)) (fun e=>c58 (nat_eq (d:=58) e)) (fun e=>c60 (nat_eq (d:=60) e)) (fun e=>c61 (nat_eq (d:=61) e)) (fun e=>c62 (nat_eq (d:=62) e)) wk ⟨h,hd⟩
theorem sgF_yes {c:UInt8} {t:List UInt8} {i:Nat} (hi:i<10) (h2:(sgX i).data.toList.isPrefixOf (c::t)=true) (h3:∀ j,j<i→(sgX j).data.toList.isPrefixOf (c::t)=false):sgF (c::t)=(sgK i,(sgX i).size):=by
 have p0:(sgX 0).data.toList.isPrefixOf (c::t)=((60 == c) && (t.head? == some 61)):=pf2 60 61 c t
 have p1:(sgX 1).data.toList.isPrefixOf (c::t)=((61 == c) && (t.head? == some 60)):=pf2 61 60 c t
 have p2:(sgX 2).data.toList.isPrefixOf (c::t)=((62 == c) && (t.head? == some 61)):=pf2 62 61 c t
 have p3:(sgX 3).data.toList.isPrefixOf (c::t)=((61 == c) && (t.head? == some 62)):=pf2 61 62 c t
 have p4:(sgX 4).data.toList.isPrefixOf (c::t)=(60 == c):=pf1 60 c t
 have p5:(sgX 5).data.toList.isPrefixOf (c::t)=(62 == c):=pf1 62 c t
 have p6:(sgX 6).data.toList.isPrefixOf (c::t)=(61 == c):=pf1 61 c t
 have p7:(sgX 7).data.toList.isPrefixOf (c::t)=(43 == c):=pf1 43 c t
 have p8:(sgX 8).data.toList.isPrefixOf (c::t)=(45 == c):=pf1 45 c t
 have p9:(sgX 9).data.toList.isPrefixOf (c::t)=(58 == c):=pf1 58 c t
 rcases (by omega:i=0∨i=1∨i=2∨i=3∨i=4∨i=5∨i=6∨i=7∨i=8∨i=9) with rfl|rfl|rfl|rfl|rfl|rfl|rfl|rfl|rfl|rfl
 ·rw [p0] at h2
  obtain ⟨e1,e2⟩:=Bool.and_eq_true_iff.1 h2
  obtain rfl:60=c:=by simpa using e1
  have e3:t.head? = some 61:=by simpa using e2
  show _=(6,2)
  simp [sgF,e3]
 ·rw [p1] at h2
  obtain ⟨e1,e2⟩:=Bool.and_eq_true_iff.1 h2
  obtain rfl:61=c:=by simpa using e1
  have e3:t.head? = some 60:=by simpa using e2
  show _=(6,2)
  simp [sgF,e3]
 ·rw [p2] at h2
  obtain ⟨e1,e2⟩:=Bool.and_eq_true_iff.1 h2
  obtain rfl:62=c:=by simpa using e1
  have e3:t.head? = some 61:=by simpa using e2
  show _=(7,2)
  simp [sgF,e3]
 ·rw [p3] at h2
  obtain ⟨e1,e2⟩:=Bool.and_eq_true_iff.1 h2
  obtain rfl:61=c:=by simpa using e1
  have e3:t.head? = some 62:=by simpa using e2
  show _=(7,2)
  simp [sgF,e3]
 ·rw [p4] at h2
  obtain rfl:60=c:=by simpa using h2
  show _=(6,1)
  have q:=h3 0 (by decide)
  rw [p0] at q
  have e3:¬ t.head? = some 61:=by simpa using q
  simp [sgF,e3]
 ·rw [p5] at h2
  obtain rfl:62=c:=by simpa using h2
  show _=(7,1)
  have q:=h3 2 (by decide)
  rw [p2] at q
  have e3:¬ t.head? = some 61:=by simpa using q
  simp [sgF,e3]
 ·rw [p6] at h2
  obtain rfl:61=c:=by simpa using h2
  show _=(8,1)
  have q:=h3 1 (by decide)
  rw [p1] at q
  have q2:=h3 3 (by decide)
  rw [p3] at q2
  have e3:¬ t.head? = some 60:=by simpa using q
  have e4:¬ t.head? = some 62:=by simpa using q2
  simp [sgF,e3,e4]
 ·rw [p7] at h2
  obtain rfl:43=c:=by simpa using h2
  show _=(3,1)
  simp [sgF]
 ·rw [p8] at h2
  obtain rfl:45=c:=by simpa using h2
  show _=(4,1)
  simp [sgF]
 ·rw [p9] at h2
  obtain rfl:58=c:=by simpa using h2
  show _=(5,1)
  simp [sgF]
theorem sgF_no {c:UInt8} {t:List UInt8} (h:∀ j,j<10→(sgX j).data.toList.isPrefixOf (c::t)=false):sgF (c::t)=(0,0):=by
 have q4:¬ c=60:=fun e=>by have:=(pf1 60 c t).symm.trans (h 4 (by decide));rw [e] at this;exact absurd this (by decide)
 have q5:¬ c=62:=fun e=>by have:=(pf1 62 c t).symm.trans (h 5 (by decide));rw [e] at this;exact absurd this (by decide)
 have q6:¬ c=61:=fun e=>by have:=(pf1 61 c t).symm.trans (h 6 (by decide));rw [e] at this;exact absurd this (by decide)
 have q7:¬ c=43:=fun e=>by have:=(pf1 43 c t).symm.trans (h 7 (by decide));rw [e] at this;exact absurd this (by decide)
 have q8:¬ c=45:=fun e=>by have:=(pf1 45 c t).symm.trans (h 8 (by decide));rw [e] at this;exact absurd this (by decide)
 have q9:¬ c=58:=fun e=>by have:=(pf1 58 c t).symm.trans (h 9 (by decide));rw [e] at this;exact absurd this (by decide)
 simp [sgF,q4,q5,q6,q7,q8,q9]
theorem sgF_off {c:UInt8} {t:List UInt8} (h:begL (c::t)=true∨nmB.contains c=true):sgF (c::t)=(0,0):=by
 have hc:¬ c=43∧¬ c=45∧¬ c=58∧¬ c=60∧¬ c=61∧¬ c=62:=by
  rcases h with h|h
  ·unfold begL at h
   simp only [List.head?_cons,List.headD_cons,Bool.or_eq_true,beq_iff_eq,Option.some.injEq] at h
   rcases h with rfl|h
   ·decide
   ·revert h
    exact byte_all (p:=fun c=>dgB.contains c=true→¬ c=43∧¬ c=45∧¬ c=58∧¬ c=60∧¬ c=61∧¬ c=62) (by decide +kernel) c
  ·revert h
   exact byte_all (p:=fun c=>nmB.contains c=true→¬ c=43∧¬ c=45∧¬ c=58∧¬ c=60∧¬ c=61∧¬ c=62) (by decide +kernel) c
 obtain ⟨q7,q8,q9,q4,q6,q5⟩:=hc
 simp [sgF,q4,q5,q6,q7,q8,q9]
end Go.Proofs.YtgdilnljjgdinaaGreatDoor
namespace Go.Proofs.YtgdilnljjgdinaaGreatDoor
open Go.RowKit Go.Shelf
theorem gp_keep (m:Bool) (l:List UInt8) (e:List UInt8) (he:e=[]∨((∀ c t,e=c::t→¬ blB.contains c=true∧¬ c=92)∧gp m l≠[])):gp m (l.take (l.length-(gp m l).length)++e)=e:=by
 induction l generalizing m with
 | nil =>
  rcases he with rfl|⟨_,h⟩
  ·cases m <;> rfl
  ·exact absurd (by cases m <;> rfl) h
 | cons b l ih =>
  have cut:∀ m',(b::l).take ((b::l).length-(gp m' l).length)=b::l.take (l.length-(gp m' l).length):=fun m'=>by
   have:=gp_len m' l
   rw [List.length_cons,show l.length+1-(gp m' l).length=(l.length-(gp m' l).length)+1 by omega,List.take_succ_cons]
  cases m with
  | true =>
   by_cases h:b=10
   ·subst h
    rw [gp_off,gp_ten] at he ⊢
    rw [cut false,List.cons_append,gp_off,gp_ten]
    exact ih false he
   ·rw [gp_on h] at he ⊢
    rw [cut true,List.cons_append,gp_on h]
    exact ih true he
  | false =>
   by_cases h1:blB.contains b=true
   ·rw [gp_bl h1] at he ⊢
    rw [cut false,List.cons_append,gp_bl h1]
    exact ih false he
   ·by_cases h2:b=92
    ·subst h2
     rw [gp_rem,gp_on (by decide)] at he ⊢
     rw [cut true,List.cons_append,gp_rem,gp_on (by decide)]
     exact ih true he
    ·rw [gp_stay h1 h2,Nat.sub_self,List.take_zero,List.nil_append]
     rcases he with rfl|⟨hc,_⟩
     ·rfl
     ·cases e with
      | nil=>rfl
      | cons c t=>exact gp_stay (hc c t rfl).1 (hc c t rfl).2
def nmD (l:List UInt8):Nat × Nat × Nat :=
 if ¬ prW ((l.take (ldL l nmB)).map smB)=[]∧0<gpN (l.drop (ldL l nmB))∧((gp false (l.drop (ldL l nmB))).take (ldL (gp false (l.drop (ldL l nmB))) nmB)).map smB=prW ((l.take (ldL l nmB)).map smB)∧colL (l.drop (pairN l))=false then (9,3,pairN l)
 else if ¬ lookW loneT ((l.take (ldL l nmB)).map smB)=0∧colL (l.drop (ldL l nmB))=false then (9,lookW loneT ((l.take (ldL l nmB)).map smB),ldL l nmB)
 else (1,0,ldL l nmB)
theorem half_lone {a:List UInt8} (h:¬ prW a=[]):lookW loneT a=0:=by
 unfold prW at h
 by_cases h1:a=[115,117,98,106,101,99,116]
 ·subst h1;decide +kernel
 ·by_cases h2:a=[115,117,99,104]
  ·subst h2;decide +kernel
  ·rw [if_neg h1,if_neg h2] at h;exact absurd rfl h
theorem wordD_prE {a d:List UInt8} (hd:∀ b r,d=b::r→nmB.contains b=false) (hg:0<gpN d):wordD a (prE d)=if ¬ prW (a.map smB)=[]∧((gp false d).take (ldL (gp false d) nmB)).map smB=prW (a.map smB) then 3 else 0:=by
 obtain ⟨b,hb⟩:∃ b,(gp false d).take (ldL (gp false d) nmB)=b:=⟨_,rfl⟩
 have hall:b.all (nmB.contains ·)=true:=by rw [← hb];exact all_ld _ _
 have hgp:gp false (prE d)=b:=by
  unfold prE
  rw [hb]
  refine gp_keep false d b ?_
  by_cases h0:b=[]
  ·exact .inl h0
  ·refine .inr ⟨fun c t e=>nm_not c (all_head hall c t e),fun h=>h0 ?_⟩
   rw [← hb,h];rfl
 have hlen:(prE d).length=gpN d+b.length:=by
  unfold prE
  rw [hb,List.length_append,List.length_take]
  have:=gpN_le d
  omega
 rw [hb]
 unfold wordD
 rw [hgp]
 have hl0:lookW loneT ((a++prE d).map smB)=0:=by
  cases e:prE d with
  | nil=>rw [e] at hlen;simp at hlen;omega
  | cons c t=>exact lone_bad (b:=c) (by simp) (prE_head hd c t e)
 rw [hl0]
 have hlt:b.length<(prE d).length:=by omega
 by_cases h:¬ prW (a.map smB)=[]∧b.map smB=prW (a.map smB)
 ·rw [if_pos ⟨h.1,hlt,h.2⟩,if_pos h]
 ·rw [if_neg (fun k=>h ⟨k.1,k.2.2⟩),if_neg h]
theorem nmN_D (l:List UInt8):nmN l=nmD l:=by
 have ha:=all_ld l nmB
 have hd:=head_ld l nmB
 have hl:l=l.take (ldL l nmB)++l.drop (ldL l nmB):=(List.take_append_drop _ _).symm
 have hal:(l.take (ldL l nmB)).length=ldL l nmB:=by rw [List.length_take];have:=ldL_le l nmB;omega
 have hp:=pair_app ha hd
 rw [List.take_append_drop,hal] at hp
 unfold nmN nmD
 rw [hp.2,wordL_app ha (prE_head hd),word_nil ha]
 generalize hA:l.take (ldL l nmB)=a at *
 generalize hDd:l.drop (ldL l nmB)=d at *
 by_cases hg:0<gpN d
 ·rw [wordD_prE hd hg]
  have hh:=@half_lone (a.map smB)
  clear hp hl hA hDd ha hal
  generalize lookW loneT (a.map smB)=W1 at *
  generalize ((gp false d).take (ldL (gp false d) nmB)).map smB=B at *
  generalize prW (a.map smB)=PR at *
  generalize colL d=C1 at *
  generalize colL (l.drop (pairN l))=C2 at *
  by_cases h1:PR=[]
  ·simp [h1]
  ·have h0:=hh h1
   subst h0
   by_cases h2:B=PR
   ·cases C2 <;> simp [h1,h2,hg]
   ·simp [h1,h2,hg]
 ·have hg0:gpN d=0:=by omega
  have hpe:prE d=[]:=by
   unfold prE
   rw [hg0,gp_len0 hg0,List.take_zero,List.nil_append]
   cases d with
   | nil=>rfl
   | cons c t=>rw [ldL_neg (by rw [hd c t rfl];decide)];rfl
  have hpn:pairN l=ldL l nmB:=by rw [hp.1,hpe];rfl
  have hwd:wordD a []=lookW loneT (a.map smB):=by
   unfold wordD
   rw [if_neg (fun h=>absurd h.2.1 (Nat.lt_irrefl _)),List.append_nil]
  rw [hpe,hwd,hpn,hDd,if_neg (fun h=>hg h.2.1) (c:=¬ prW (a.map smB)=[]∧0<gpN d∧_)]
  by_cases h2:¬ lookW loneT (a.map smB)=0∧colL d=false
  ·rw [if_pos h2,if_pos h2]
  ·rw [if_neg h2,if_neg h2]
end Go.Proofs.YtgdilnljjgdinaaGreatDoor
