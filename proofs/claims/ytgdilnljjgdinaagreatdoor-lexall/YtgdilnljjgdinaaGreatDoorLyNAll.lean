import Derived.Test.YtgdilnljjgdinaaGreatDoorR5MpAll
import Derived.Test.YtgdilnljjgdinaaGreatDoorLxFAll
namespace Go.Proofs.YtgdilnljjgdinaaGreatDoor
open Go.RowKit Go.Shelf
-- lists: names and words
theorem ld_app {a d cs:List UInt8} (ha:a.all (cs.contains ·)=true) (hd:∀ b r,d=b::r→cs.contains b=false):ldL (a++d) cs=a.length:=by
 induction a with
 | nil =>
  cases d with
  | nil=>rfl
  | cons b r=>rw [List.nil_append,ldL_neg (by rw [hd b r rfl];decide)];rfl
 | cons b a ih =>
  simp only [List.all_cons,Bool.and_eq_true] at ha
  rw [List.cons_append,ldL_pos ha.1,ih ha.2];rfl
theorem wordL_app {a e:List UInt8} (ha:a.all (nmB.contains ·)=true) (he:∀ b r,e=b::r→nmB.contains b=false):wordL (a++e)=wordD a e:=by
 unfold wordL
 rw [ld_app ha he,List.take_left,List.drop_left]
theorem nm_not:∀ b:UInt8,nmB.contains b=true→¬ blB.contains b=true∧¬ b=92:=fun b=>byte_all (p:=fun b=>nmB.contains b=true→¬ blB.contains b=true∧¬ b=92) (by decide +kernel) b
theorem all_head {l:List UInt8} (h:l.all (nmB.contains ·)=true):∀ b r,l=b::r→nmB.contains b=true:=fun b r e=>by subst e;simp only [List.all_cons,Bool.and_eq_true] at h;exact h.1
theorem lone_bad {a e:List UInt8} {b:UInt8} (hb:b ∈ e) (hn:nmB.contains b=false):lookW loneT ((a++e).map smB)=0:=by
 refine lone_other fun h=>?_
 rw [all_sm] at h
 have:=List.all_eq_true.1 h b (List.mem_append_right _ hb)
 simp only [hn] at this
 cases this
def prE (d:List UInt8):List UInt8:=d.take (gpN d)++(gp false d).take (ldL (gp false d) nmB)
theorem gp_len0 {d:List UInt8} (h:gpN d=0):gp false d=d:=by have:=drop_gp d;rw [h] at this;exact this.symm
theorem prE_head {d:List UInt8} (hd:∀ b r,d=b::r→nmB.contains b=false):∀ b r,prE d=b::r→nmB.contains b=false:=by
 intro b r e
 unfold prE at e
 by_cases h:gpN d=0
 ·rw [h,gp_len0 h] at e
  cases d with
  | nil=>cases e
  | cons c t =>
   rw [ldL_neg (by rw [hd c t rfl];decide)] at e
   cases e
 ·cases d with
  | nil=>exact absurd rfl h
  | cons c t =>
   obtain ⟨k,hk⟩:∃ k,gpN (c::t)=k+1:=⟨gpN (c::t)-1,by omega⟩
   rw [hk] at e
   simp only [List.take_succ_cons,List.cons_append,List.cons.injEq] at e
   exact e.1 ▸ hd c t rfl
theorem pair_app {a d:List UInt8} (ha:a.all (nmB.contains ·)=true) (hd:∀ b r,d=b::r→nmB.contains b=false):pairN (a++d)=a.length+(prE d).length∧(a++d).take (pairN (a++d))=a++prE d:=by
 have h1:pairN (a++d)=a.length+gpN d+ldL (gp false d) nmB:=by
  unfold pairN
  rw [ld_app ha hd,List.drop_left,show (a++d).drop (a.length+gpN d)=d.drop (gpN d) from by rw [List.drop_append];simp,drop_gp]
 have h2:(prE d).length=gpN d+ldL (gp false d) nmB:=by
  unfold prE
  rw [List.length_append,List.length_take,List.length_take]
  have:=gpN_le d
  have:=ldL_le (gp false d) nmB
  omega
 refine ⟨by omega,?_⟩
 rw [h1,Nat.add_assoc,List.take_length_add_append,List.take_add,drop_gp]
 rfl
theorem word_nil {a:List UInt8} (ha:a.all (nmB.contains ·)=true):wordL a=lookW loneT (a.map smB):=by
 have h:=wordL_app (e:=[]) ha (fun b r e=>by cases e)
 rw [List.append_nil] at h
 rw [h]
 unfold wordD
 rw [if_neg (fun h=>absurd h.2.1 (Nat.lt_irrefl _)),List.append_nil]
end Go.Proofs.YtgdilnljjgdinaaGreatDoor
namespace Go.Proofs.YtgdilnljjgdinaaGreatDoor
open Go.RowKit Go.Shelf
-- what stands there,by what is read
end Go.Proofs.YtgdilnljjgdinaaGreatDoor
namespace Go.Proofs.YtgdilnljjgdinaaGreatDoor
open Go.RowKit Go.Shelf
structure Ers (w:World):Prop where
 N:∃ ev,Errs w 11 ev
 X:∃ ev,Errs w 12 ev
 D:∃ ev,Errs w 0 ev
 C:∃ ev,Errs w 4 ev
theorem Ers.at {E:ByteArray→Int→Prop} {w:World} (h:Ers w) {R:ByteArray} {g:Nat} {code:Int} (r:Rn E R g code):∃ ev,Errs w g ev:=by
 rcases r with ⟨_,_,_,⟨rfl,_⟩|⟨rfl,_⟩|⟨rfl,_⟩⟩|⟨_,_,_,rfl,_⟩
 ·exact h.N
 ·exact h.X
 ·exact h.D
 ·exact h.C
end Go.Proofs.YtgdilnljjgdinaaGreatDoor
namespace Go.Proofs.YtgdilnljjgdinaaGreatDoor
open Go.RowKit Go.Shelf
def cnF:List UInt8→Int→Int
 | [],c=>c
 | b::l,c=>cnF l (if b=10 then 1 else c+1)
theorem cnF_app (a b:List UInt8) (c:Int):cnF (a++b) c=cnF b (cnF a c):=by
 induction a generalizing c with
 | nil=>rfl
 | cons x a ih=>exact ih _
theorem cnF_no (l:List UInt8) (c:Int) (h:(10:UInt8) ∉ l):cnF l c=c+(l.length:Nat):=by
 induction l generalizing c with
 | nil=>simp [cnF]
 | cons b l ih =>
  rw [cnF,if_neg (fun e=>h (by rw [e];exact List.mem_cons_self ..)),ih _ (fun m=>h (List.mem_cons_of_mem _ m)),List.length_cons]
  omega
theorem cnF_bd (l:List UInt8) (c:Int) (h:0<c):0<cnF l c∧cnF l c≤c+(l.length:Nat):=by
 induction l generalizing c with
 | nil=>simp [cnF];omega
 | cons b l ih =>
  rw [cnF,List.length_cons]
  split
  ·have:=ih 1 (by omega);omega
  ·have:=ih (c+1) (by omega);omega
theorem dat_getD (x:ByteArray) (i:Nat) (h:i<x.size):x.data[i]! = x.data.toList.getD i 0:=by
 have h':i<x.data.size:=h
 rw [getElem!_pos x.data i h',List.getD_eq_getElem?_getD,Array.getElem?_toList,Array.getElem?_eq_getElem h',Option.getD_some]
theorem ovC_cn (x:ByteArray) (c:Int):ovC x c=cnF x.data.toList c:=by
 unfold ovC
 by_cases h:x.data.toList.count 10=0
 ·rw [if_pos h,cnF_no _ _ (List.count_eq_zero.1 h),len_list]
 ·rw [if_neg h]
  rcases Lib.lastIndexByte_spec x 10 with ⟨_,h2⟩|⟨i,h1,h2,h3,h4⟩
  ·refine absurd (List.count_eq_zero.2 fun hm=>?_) h
   obtain ⟨j,hj,e⟩:=List.mem_iff_getElem.1 hm
   have hj':j<x.size:=by rw [← len_list];exact hj
   refine h2 j hj' ?_
   rw [dat_getD x j hj',List.getD_eq_getElem?_getD,List.getElem?_eq_getElem hj,e];rfl
  ·have e1:x.data.toList.getD i 0=10:=nat_eq (d:=10) (by rw [← dat_getD x i h1];exact h3)
   have e2:x.data.toList=x.data.toList.take i++10::x.data.toList.drop (i+1):=by
    rw [← e1,← drop_byte h1,List.take_append_drop]
   have e3:(10:UInt8) ∉ x.data.toList.drop (i+1):=fun hm=>by
    obtain ⟨j,hj,e⟩:=List.mem_iff_getElem.1 hm
    rw [List.length_drop,len_list] at hj
    rw [List.getElem_drop] at e
    have hj':i+1+j<x.size:=by omega
    refine h4 (i+1+j) (by omega) hj' ?_
    rw [dat_getD x _ hj',List.getD_eq_getElem?_getD,List.getElem?_eq_getElem (by rw [len_list];exact hj'),e];rfl
   rw [h2,e2,cnF_app,cnF,if_pos rfl,cnF_no _ _ e3,List.length_drop,len_list]
   omega
end Go.Proofs.YtgdilnljjgdinaaGreatDoor
namespace Go.Proofs.YtgdilnljjgdinaaGreatDoor
open Go.RowKit Go.Shelf
set_option maxRecDepth 100000 in
set_option maxHeartbeats 2000000 in
theorem PlaceD (s:ByteArray) (p:Nat) (w:World) (hp:p≤s.size) (hs:s.size≤100000000) {line col:Int} (hl:1+(((s.data.toList.take p).count 10:Nat):Int)=line) (hc:cnF (s.data.toList.take p) 1=col) :
  Calls Tryz.prog 17 #[.string s,.int .i64 (p:Int)] w fun e w'=>e = .returned (.tuple #[.int .i64 line,.int .i64 col])∧w'=w:=by
 have HL:Hid (1+(((s.data.toList.take p).count 10:Nat):Int)=line∧cnF (s.data.toList.take p) 1=col):=⟨hl,hc⟩
 clear hl hc
 go_enter Tryz.func17,Tryz.ntmps17
 go_wp2
 go_loopw [6,7,8] (fun a b t wr=>∃ (i:Nat) (A B:Int),i≤p∧Hid (1+(((s.data.toList.take i).count 10:Nat):Int)=A∧cnF (s.data.toList.take i) 1=B)∧a = .int .i64 A∧b = .int .i64 B∧t = .int .i64 i∧wr=w) (fun _ _ t _=>p-(intOf t).toNat)
 case atStart=>exact ⟨0,1,1,by omega,⟨rfl,rfl⟩,rfl,rfl,rfl,rfl⟩
 case round =>
  obtain ⟨i,A,B,hi,HA,rfl,rfl,rfl,rfl⟩:=hrel
  by_cases hlt:i<p
  ·have his:i<s.size:=by omega
   have hil:(i:Int)<(p:Int):=by omega
   have hi0:(0:Int)≤(i:Int):=by omega
   have his2:(i:Int)<(s.size:Int):=by omega
   have hby:=getD_get his
   have htk:=take_byte his
   have hcb:=cnF_bd (s.data.toList.take i) 1 (by omega)
   have hct:=List.count_le_length (a:=(10:UInt8)) (l:=s.data.toList.take i)
   rw [HA.out.2] at hcb
   have hAo:=HA.out.1
   rw [List.length_take] at hcb hct
   have hw1:IntKind.i64.wrap ((i:Int)+1)=(i:Int)+1:=by rw [IntKind.wrap_i64];omega
   have hw2:IntKind.i64.wrap (A+1)=A+1:=by rw [IntKind.wrap_i64];omega
   have hw3:IntKind.i64.wrap (B+1)=B+1:=by rw [IntKind.wrap_i64];omega
   by_cases h10:s.data.toList.getD i 0=10
   ·have HA2:Hid (1+(((s.data.toList.take (i+1)).count 10:Nat):Int)=A+1∧cnF (s.data.toList.take (i+1)) 1=1):=by
     refine ⟨?_,?_⟩
     ·rw [htk,List.count_append,h10,← HA.out.1,show List.count (10:UInt8) [10]=1 from rfl];omega
     ·rw [htk,cnF_app,h10];rfl
    rw [h10,show (((10:UInt8).toNat:Nat):Int)=10 from rfl] at hby
    clear HA HL htk hcb hct hAo h10
    go_wp2
    go_roundw
    case rel=>exact ⟨i+1,A+1,1,by omega,HA2,by go_num,by first|rfl|go_num,by go_num,by first|rfl|trivial⟩
    case measure=>simp [intOf];omega
   ·have HA2:Hid (1+(((s.data.toList.take (i+1)).count 10:Nat):Int)=A∧cnF (s.data.toList.take (i+1)) 1=B+1):=by
     refine ⟨?_,?_⟩
     ·rw [htk,List.count_append,← HA.out.1,List.count_singleton,if_neg (by simpa using h10)];omega
     ·rw [htk,cnF_app,HA.out.2,cnF,if_neg h10];rfl
    have n1:¬ ((s.data.toList.getD i 0).toNat:Int)=10:=fun e=>h10 (nat_eq (d:=10) e)
    generalize ((s.data.toList.getD i 0).toNat:Int)=C at *
    have b1:(C == 10)=false:=by simpa using n1
    clear HA HL htk hcb hct hAo h10
    go_wp2
    go_roundw
    case rel=>exact ⟨i+1,A,B+1,by omega,HA2,by first|rfl|go_num,by go_num,by go_num,by first|rfl|trivial⟩
    case measure=>simp [intOf];omega
  ·have hil:¬ (i:Int)<(p:Int):=by omega
   obtain rfl:i=p:=by omega
   have h1:=HA.out.1.symm.trans HL.out.1
   have h2:=HA.out.2.symm.trans HL.out.2
   subst h1 h2
   clear HA HL
   go_wp2
   go_ret2
   exact ⟨rfl,rfl⟩
end Go.Proofs.YtgdilnljjgdinaaGreatDoor
