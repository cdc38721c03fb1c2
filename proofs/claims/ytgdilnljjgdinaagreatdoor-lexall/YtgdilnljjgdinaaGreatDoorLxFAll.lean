import Derived.Test.YtgdilnljjgdinaaGreatDoorLxWAll
import Derived.Test.YtgdilnljjgdinaaGreatDoorRefX0All
namespace Go.Proofs.YtgdilnljjgdinaaGreatDoor
open Go.RowKit
theorem smB_nat (c:UInt8):((smB c).toNat:Int)=if 65≤(c.toNat:Int)∧(c.toNat:Int)≤90 then (c.toNat:Int)+32 else (c.toNat:Int) :=
 byte_all (p:=fun c=>((smB c).toNat:Int)=if 65≤(c.toNat:Int)∧(c.toNat:Int)≤90 then (c.toNat:Int)+32 else (c.toNat:Int)) (by decide +kernel) c
theorem byte_bd (c:UInt8):0≤(c.toNat:Int)∧(c.toNat:Int)<256:=by have:=c.toNat_lt;omega
theorem smallD (c:UInt8) (w:World) :
  Calls Tryz.prog 61 #[.int .u8 (c.toNat:Int)] w fun e w'=>e = .returned (.int .u8 ((smB c).toNat:Int))∧w'=w:=by
 have hb:=byte_bd c
 rw [smB_nat]
 generalize (c.toNat:Int)=C at *
 by_cases h1:(65:Int)≤C
 ·by_cases h2:C≤90
  ·rw [if_pos ⟨h1,h2⟩]
   have hw:IntKind.u8.wrap (C+32)=C+32:=by rw [IntKind.wrap_u8];omega
   clear hb
   go_enter Tryz.func61,Tryz.ntmps61
   go_wp2
   go_ret
   exact ⟨rfl,rfl⟩
  ·rw [if_neg (by omega)]
   clear hb
   go_enter Tryz.func61,Tryz.ntmps61
   go_wp2
   go_ret
   exact ⟨rfl,rfl⟩
 ·rw [if_neg (by omega)]
  clear hb
  go_enter Tryz.func61,Tryz.ntmps61
  go_wp2
  go_ret
  exact ⟨rfl,rfl⟩
def mkB:List UInt8:=[33,34,35,36,37,38,40,41,44,46,59,63,64,95,39,96,123,125,126]
theorem nm_abc (c:UInt8) (h:97≤((smB c).toNat:Int)∧((smB c).toNat:Int)≤122):nmB.contains c=true:=by
 revert h
 exact byte_all (p:=fun c=>97≤((smB c).toNat:Int)∧((smB c).toNat:Int)≤122→nmB.contains c=true) (by decide +kernel) c
theorem nm_dig (c:UInt8) (h:48≤(c.toNat:Int)∧(c.toNat:Int)≤57):nmB.contains c=true:=by
 revert h
 exact byte_all (p:=fun c=>48≤(c.toNat:Int)∧(c.toNat:Int)≤57→nmB.contains c=true) (by decide +kernel) c
theorem nm_mark (c:UInt8) (h1:¬ (97≤((smB c).toNat:Int)∧((smB c).toNat:Int)≤122)) (h2:¬ (48≤(c.toNat:Int)∧(c.toNat:Int)≤57)):nmB.contains c=mkB.contains c:=by
 revert h1 h2
 exact byte_all (p:=fun c=>¬ (97≤((smB c).toNat:Int)∧((smB c).toNat:Int)≤122)→¬ (48≤(c.toNat:Int)∧(c.toNat:Int)≤57)→nmB.contains c=mkB.contains c) (by decide +kernel) c
theorem mk_at {c:UInt8} {i:Nat} (hi:i<19) (h:((mkB.getD i 0).toNat:Int)=(c.toNat:Int)):mkB.contains c=true:=by
 have e:mkB.getD i 0=c:=UInt8.toNat_inj.1 (by omega)
 have hl:i<mkB.length:=hi
 rw [← e,List.getD_eq_getElem?_getD,List.getElem?_eq_getElem hl,Option.getD_some]
 exact List.elem_eq_true_of_mem (List.getElem_mem hl)
theorem mk_no {c:UInt8} (h:∀ i,i<19→¬ ((mkB.getD i 0).toNat:Int)=(c.toNat:Int)):mkB.contains c=false:=by
 cases e:mkB.contains c with
 | false=>rfl
 | true =>
  exfalso
  have hm:c ∈ mkB:=by simpa using e
  obtain ⟨i,hi,hc⟩:=List.mem_iff_getElem.1 hm
  refine h i hi ?_
  rw [List.getD_eq_getElem?_getD,List.getElem?_eq_getElem hi,Option.getD_some,hc]
set_option maxRecDepth 100000 in
set_option maxHeartbeats 4000000 in
theorem nameByteD (c:UInt8) (w:World) :
  Calls Tryz.prog 35 #[.int .u8 (c.toNat:Int)] w fun e w'=>e = .returned (.bool (nmB.contains c))∧w'=w:=by
 have HS:∀ u:World,Calls Tryz.prog 61 #[.int .u8 (c.toNat:Int)] u fun e w'=>e = .returned (.int .u8 ((smB c).toNat:Int))∧w'=u:=fun u=>smallD c u
 have HA:=nm_abc c
 have HB:=nm_dig c
 have HM:=nm_mark c
 have HG:=@mk_at c
 have HN:=@mk_no c
 generalize ((smB c).toNat:Int)=D at *
 generalize (c.toNat:Int)=C at *
 generalize nmB.contains c=R at *
 generalize mkB.contains c=M at *
 have loopD:∀ (Q:Nat→Prop),True:=fun _=>trivial
 clear loopD
 by_cases hA:97≤D∧D≤122
 ·obtain ⟨h1,h2⟩:=hA
  rw [HA ⟨h1,h2⟩]
  clear HA HB HM HG HN
  go_enter Tryz.func35,Tryz.ntmps35
  go_wp2_with fail
  refine (HS _).mono ?_
  rintro e w1 ⟨rfl,rfl⟩
  go_wp2
  go_ret
  exact ⟨rfl,rfl⟩
 ·by_cases hB:48≤C∧C≤57
  ·obtain ⟨h1,h2⟩:=hB
   rw [HB ⟨h1,h2⟩]
   clear HA HB HM HG HN
   rcases (by omega:¬ 97≤D∨(97≤D∧¬ D≤122)) with h3|⟨h3,h4⟩
   all_goals
    go_enter Tryz.func35,Tryz.ntmps35
    go_wp2_with fail
    refine (HS _).mono ?_
    rintro e w1 ⟨rfl,rfl⟩
    go_wp2
    go_ret
    exact ⟨rfl,rfl⟩
  ·have hR:=HM hA hB
   subst hR
   clear HA HB HM
   have hA':¬ 97≤D∨(97≤D∧¬ D≤122):=by omega
   have hB':¬ 48≤C∨(48≤C∧¬ C≤57):=by omega
   clear hA hB
   rcases hA' with h3|⟨h3,h4⟩ <;> rcases hB' with h5|⟨h5,h6⟩
   all_goals
    go_enter Tryz.func35,Tryz.ntmps35
    go_wp2_with fail
    refine (HS _).mono ?_
    rintro e w1 ⟨rfl,rfl⟩
    go_wp2
    go_loopw [5] (fun t wr=>∃ i:Nat,i≤19∧t = .int .i64 i∧(∀ j,j<i→¬ ((mkB.getD j 0).toNat:Int)=C)∧wr=w1) (fun t _=>19-(intOf t).toNat)
    case atStart=>exact ⟨0,by omega,rfl,fun j hj=>absurd hj (Nat.not_lt_zero _),rfl⟩
    case round =>
     obtain ⟨i,hi,rfl,hno,rfl⟩:=hrel
     have HNO:Hid (∀ j,j<i→¬ ((mkB.getD j 0).toNat:Int)=C):=hno
     clear hno
     by_cases hlt:i<19
     ·have hil:(i:Int)<19:=by omega
      have hi0:(0:Int)≤(i:Int):=by omega
      obtain ⟨s,hs⟩:∃ s:ByteArray,s=⟨#[33,34,35,36,37,38,40,41,44,46,59,63,64,95,39,96,123,125,126]⟩:=⟨_,rfl⟩
      have hsz:s.size=19:=by rw [hs];rfl
      have hby:((s[i]'(by omega)).toNat:Int)=((mkB.getD i 0).toNat:Int):=by
       rw [getD_get (by omega),hs];rfl
      have hw1:IntKind.i64.wrap ((i:Int)+1)=(i:Int)+1:=by rw [IntKind.wrap_i64];omega
      rw [← hs]
      have hszI:(s.size:Int)=19:=by omega
      have hlt2:i<s.size:=by omega
      by_cases he:((mkB.getD i 0).toNat:Int)=C
      ·have hM:=HG hlt he
       generalize ((mkB.getD i 0).toNat:Int)=E at *
       subst he
       subst hM
       clear HG HN HNO hs
       go_wp2
       go_ret
       exact ⟨rfl,rfl⟩
      ·have HNO2:Hid (∀ j,j<i+1→¬ ((mkB.getD j 0).toNat:Int)=C):=fun j hj=>by
        rcases (by omega:j<i∨j=i) with h|rfl
        ·exact HNO.out j h
        ·exact he
       generalize ((mkB.getD i 0).toNat:Int)=E at *
       have hb:(E == C)=false:=by simpa using he
       clear HG HN HNO hs
       go_wp2
       go_roundw
       case rel=>exact ⟨i+1,by omega,by go_num,HNO2.out,by first|rfl|trivial⟩
       case measure=>simp [intOf];omega
     ·have hil:¬ (i:Int)<19:=by omega
      obtain rfl:i=19:=by omega
      have hM:=HN HNO.out
      subst hM
      clear HG HN HNO
      go_wp2
      go_ret
      exact ⟨rfl,rfl⟩
set_option maxRecDepth 100000 in
set_option maxHeartbeats 4000000 in
theorem nameD (s:ByteArray) (k:Nat) (w:World) (hk:k≤s.size) (hs:s.size≤1000000000) :
  Calls Tryz.prog 62 #[.string s,.int .i64 k] w fun e w'=>e = .returned (.int .i64 ((k+ldL (s.data.toList.drop k) nmB:Nat):Int))∧w'=w:=by
 obtain ⟨N,hN⟩:∃ N,k+ldL (s.data.toList.drop k) nmB=N:=⟨_,rfl⟩
 rw [hN]
 go_enter Tryz.func62,Tryz.ntmps62
 go_wp2
 go_loopw [1] (fun t wr=>∃ i:Nat,i≤s.size∧t = .int .i64 i∧Hid (i+ldL (s.data.toList.drop i) nmB=N)∧wr=w) (fun t _=>s.size-(intOf t).toNat)
 case atStart=>exact ⟨k,hk,rfl,hN,rfl⟩
 case round =>
  obtain ⟨i,hi,rfl,HN,rfl⟩:=hrel
  clear hN hk
  by_cases hlt:i<s.size
  ·have hil:(i:Int)<(s.size:Int):=by omega
   have hi0:(0:Int)≤(i:Int):=by omega
   have hby:=getD_get hlt
   have hd:=drop_byte hlt
   have HC:=fun u=>nameByteD (s.data.toList.getD i 0) u
   have hw1:IntKind.i64.wrap ((i:Int)+1)=(i:Int)+1:=by rw [IntKind.wrap_i64];omega
   by_cases hc:nmB.contains (s.data.toList.getD i 0)=true
   ·have HN2:Hid (i+1+ldL (s.data.toList.drop (i+1)) nmB=N):=by show _=_;rw [← HN.out,hd,ldL_pos hc];omega
    rw [hc] at HC
    clear hd hc HN
    generalize ((s.data.toList.getD i 0).toNat:Int)=C at *
    go_wp2_with fail
    refine (HC _).mono ?_
    rintro e w1 ⟨rfl,rfl⟩
    go_wp2
    go_roundw
    case rel=>exact ⟨i+1,by omega,by go_num,HN2,by first|rfl|trivial⟩
    case measure=>simp [intOf];omega
   ·obtain rfl:i=N:=by
     have:=HN.out
     rw [hd,ldL_neg hc] at this
     exact this
    rw [show nmB.contains (s.data.toList.getD i 0)=false by simpa using hc] at HC
    clear hd hc HN
    generalize ((s.data.toList.getD i 0).toNat:Int)=C at *
    go_wp2_with fail
    refine (HC _).mono ?_
    rintro e w1 ⟨rfl,rfl⟩
    go_wp2
    go_ret
    exact ⟨rfl,rfl⟩
  ·have hil:¬ (i:Int)<(s.size:Int):=by omega
   obtain rfl:i=N:=by
    have:=HN.out
    rw [drop_none (by omega)] at this
    exact this
   clear HN
   go_wp2
   go_ret
   exact ⟨rfl,rfl⟩
theorem bl_of (c:UInt8):blB.contains c=decide ((c.toNat:Int)=32∨(c.toNat:Int)=9∨(c.toNat:Int)=10∨(c.toNat:Int)=13) :=
 byte_all (p:=fun c=>blB.contains c=decide ((c.toNat:Int)=32∨(c.toNat:Int)=9∨(c.toNat:Int)=10∨(c.toNat:Int)=13)) (by decide +kernel) c
theorem blankD (c:UInt8) (w:World) :
  Calls Tryz.prog 30 #[.int .u8 (c.toNat:Int)] w fun e w'=>e = .returned (.bool (blB.contains c))∧w'=w:=by
 rw [bl_of]
 generalize (c.toNat:Int)=C at *
 by_cases h1:C=32
 ·subst h1
  go_enter Tryz.func30,Tryz.ntmps30
  go_wp2
  go_ret
  exact ⟨rfl,rfl⟩
 ·by_cases h2:C=9
  ·subst h2
   go_enter Tryz.func30,Tryz.ntmps30
   go_wp2
   go_ret
   exact ⟨rfl,rfl⟩
  ·by_cases h3:C=10
   ·subst h3
    go_enter Tryz.func30,Tryz.ntmps30
    go_wp2
    go_ret
    exact ⟨rfl,rfl⟩
   ·by_cases h4:C=13
    ·subst h4
     go_enter Tryz.func30,Tryz.ntmps30
     go_wp2
     go_ret
     exact ⟨rfl,rfl⟩
    ·rw [show decide (C=32∨C=9∨C=10∨C=13)=false from decide_eq_false (by omega)]
     have b1:(C == 32)=false:=by simpa using h1
     have b2:(C == 9)=false:=by simpa using h2
     have b3:(C == 10)=false:=by simpa using h3
     have b4:(C == 13)=false:=by simpa using h4
     go_enter Tryz.func30,Tryz.ntmps30
     go_wp2
     go_ret
     exact ⟨rfl,rfl⟩
theorem gp_bl {b:UInt8} {l:List UInt8} (h:blB.contains b=true):gp false (b::l)=gp false l:=by
 conv=>lhs;unfold gp
 rw [if_pos h]
theorem gp_rem {l:List UInt8}:gp false (92::l)=gp true (92::l):=rfl
theorem gp_on {b:UInt8} {l:List UInt8} (h:¬ b=10):gp true (b::l)=gp true l:=by
 conv=>lhs;unfold gp
 rw [if_neg h]
theorem gp_off {l:List UInt8}:gp true (10::l)=gp false (10::l):=rfl
theorem nat_eq {c d:UInt8} (h:(c.toNat:Int)=(d.toNat:Int)):c=d:=UInt8.toNat_inj.1 (by omega)
set_option maxRecDepth 100000 in
set_option maxHeartbeats 8000000 in
theorem GapD (s:ByteArray) (k:Nat) (w:World) (hk:k≤s.size) (hs:s.size≤1000000000) :
  Calls Tryz.prog 15 #[.string s,.int .i64 k] w fun e w'=>e = .returned (.int .i64 ((k+gpN (s.data.toList.drop k):Nat):Int))∧w'=w:=by
 obtain ⟨G,hG⟩:∃ G,gp false (s.data.toList.drop k)=G:=⟨_,rfl⟩
 have hGl:G.length≤s.size-k:=by
  have:=gp_len false (s.data.toList.drop k)
  rw [hG,List.length_drop,len_list] at this;exact this
 have e0:k+gpN (s.data.toList.drop k)=s.size-G.length:=by
  unfold gpN;rw [hG,List.length_drop,len_list];omega
 rw [e0]
 obtain ⟨N,hN⟩:∃ N,s.size-G.length=N:=⟨_,rfl⟩
 rw [hN]
 have HG:Hid (gp false (s.data.toList.drop k)=G):=hG
 have HL:Hid (s.size-G.length=N∧G.length≤s.size):=⟨hN,by omega⟩
 clear hG e0 hN hGl
 go_enter Tryz.func15,Tryz.ntmps15
 go_wp2
 go_loopw [1] (fun t wr=>∃ i:Nat,i≤s.size∧t = .int .i64 i∧Hid (gp false (s.data.toList.drop i)=G)∧wr=w) (fun t _=>s.size-(intOf t).toNat)
 case atStart=>exact ⟨k,hk,rfl,HG,rfl⟩
 case round =>
  clear HG hk
  obtain ⟨i,hi,rfl,HG,rfl⟩:=hrel
  by_cases hlt:i<s.size
  ·have hil:(i:Int)<(s.size:Int):=by omega
   have hi0:(0:Int)≤(i:Int):=by omega
   have hby:=getD_get hlt
   have hd:=drop_byte hlt
   have HC:=fun u=>blankD (s.data.toList.getD i 0) u
   have hw1:IntKind.i64.wrap ((i:Int)+1)=(i:Int)+1:=by rw [IntKind.wrap_i64];omega
   by_cases hc:blB.contains (s.data.toList.getD i 0)=true
   ·have HG2:Hid (gp false (s.data.toList.drop (i+1))=G):=by show _=_;rw [← HG.out,hd,gp_bl hc]
    rw [hc] at HC
    have h92:¬ ((s.data.toList.getD i 0).toNat:Int)=92:=by
     have:=bl_of (s.data.toList.getD i 0)
     rw [hc] at this
     have:=of_decide_eq_true this.symm
     omega
    clear hd hc HG HL
    generalize ((s.data.toList.getD i 0).toNat:Int)=C at *
    have b92:(C == 92)=false:=by simpa using h92
    go_wp2_with fail
    refine (HC _).mono ?_
    rintro e w1 ⟨rfl,rfl⟩
    go_wp2
    go_roundw
    case rel=>exact ⟨i+1,by omega,by go_num,HG2,by first|rfl|trivial⟩
    case measure=>simp [intOf];omega
   ·rw [show blB.contains (s.data.toList.getD i 0)=false by simpa using hc] at HC
    by_cases h92:s.data.toList.getD i 0=92
    ·have HG2:Hid (gp true (s.data.toList.drop i)=G):=by show _=_;rw [← HG.out,hd,h92];rfl
     have hC:((s.data.toList.getD i 0).toNat:Int)=92:=by rw [h92];rfl
     clear hd hc HG h92
     rw [hC] at hby
     rw [hC] at HC
     go_wp2_with fail
     refine (HC _).mono ?_
     rintro e w1 ⟨rfl,rfl⟩
     clear HC
     go_wp2
     go_loopw [1] (fun t wr=>∃ j:Nat,i≤j∧j≤s.size∧t = .int .i64 j∧Hid (gp true (s.data.toList.drop j)=G)∧wr=w1) (fun t _=>s.size-(intOf t).toNat)
     case atStart=>exact ⟨i,Nat.le_refl _,by omega,rfl,HG2,rfl⟩
     case round =>
      clear HG2
      obtain ⟨j,hij,hj,rfl,HJ,rfl⟩:=hrel
      by_cases hjl:j<s.size
      ·have hjI:(j:Int)<(s.size:Int):=by omega
       have hj0:(0:Int)≤(j:Int):=by omega
       have hbj:=getD_get hjl
       have hdj:=drop_byte hjl
       have hwj:IntKind.i64.wrap ((j:Int)+1)=(j:Int)+1:=by rw [IntKind.wrap_i64];omega
       by_cases h10:s.data.toList.getD j 0=10
       ·have HG3:Hid (gp false (s.data.toList.drop j)=G):=by show _=_;rw [← HJ.out,hdj,h10];rfl
        have hC:((s.data.toList.getD j 0).toNat:Int)=10:=by rw [h10];rfl
        have hne:i≠j:=by
         rintro rfl
         rw [hbj,hC] at hby;omega
        rw [hC] at hbj
        clear hdj h10 hC hby HJ HL
        go_wp2
        go_roundw
        case rel=>exact ⟨j,by omega,rfl,HG3,by first|rfl|trivial⟩
        case measure=>simp [intOf];omega
       ·have HG3:Hid (gp true (s.data.toList.drop (j+1))=G):=by show _=_;rw [← HJ.out,hdj,gp_on h10]
        have hne:¬ ((s.data.toList.getD j 0).toNat:Int)=10:=fun h=>h10 (nat_eq (d:=10) h)
        clear hdj h10 hby HJ HL
        generalize ((s.data.toList.getD j 0).toNat:Int)=C at *
        have b10:(C == 10)=false:=by simpa using hne
        go_wp2
        go_roundw
        case rel=>exact ⟨j+1,by omega,by omega,by go_num,HG3,by first|rfl|trivial⟩
        case measure=>simp [intOf];omega
      ·have hjI:¬ (j:Int)<(s.size:Int):=by omega
       have HG3:Hid (gp false (s.data.toList.drop j)=G):=by
        show _=_
        rw [← HJ.out,drop_none (by omega)];rfl
       clear hby HJ HL
       go_wp2
       go_roundw
       case rel=>exact ⟨j,by omega,rfl,HG3,by first|rfl|trivial⟩
       case measure=>simp [intOf];omega
    ·have hNi:i=N:=by
      have h1:=HG.out
      rw [hd,gp_stay hc h92] at h1
      have h2:=HL.out
      rw [← h1,List.length_cons,List.length_drop,len_list] at h2
      omega
     have h92':¬ ((s.data.toList.getD i 0).toNat:Int)=92:=fun h=>h92 (nat_eq (d:=92) h)
     obtain rfl:=hNi
     clear hd hc HG HL h92
     generalize ((s.data.toList.getD i 0).toNat:Int)=C at *
     have b92:(C == 92)=false:=by simpa using h92'
     go_wp2_with fail
     refine (HC _).mono ?_
     rintro e w1 ⟨rfl,rfl⟩
     go_wp2
     go_ret
     exact ⟨rfl,rfl⟩
  ·have hil:¬ (i:Int)<(s.size:Int):=by omega
   have hNi:i=N:=by
    have h1:=HG.out
    rw [drop_none (by omega)] at h1
    have h2:=HL.out
    rw [← h1] at h2
    simp [gp] at h2
    omega
   obtain rfl:=hNi
   clear HG HL
   go_wp2
   go_ret
   exact ⟨rfl,rfl⟩
def smS (l:List UInt8):ByteArray:=⟨(l.map smB).toArray⟩
theorem smS_list (l:List UInt8):(smS l).data.toList=l.map smB:=rfl
theorem smS_nums (l:List UInt8):strOfNums (l.map fun b=>((smB b).toNat:Int))=smS l:=by
 refine congrArg ByteArray.mk (congrArg List.toArray ?_)
 rw [List.map_map]
 refine List.map_congr_left fun b _=>?_
 show UInt8.ofNat ((smB b).toNat:Int).toNat=smB b
 rw [Int.toNat_natCast,UInt8.ofNat_toNat]
theorem take_byte {s:ByteArray} {k:Nat} (h:k<s.size):s.data.toList.take (k+1)=s.data.toList.take k++[s.data.toList.getD k 0]:=by
 have hl:k<s.data.toList.length:=by simpa using h
 rw [List.take_succ_eq_append_getElem hl,List.getD_eq_getElem?_getD,List.getElem?_eq_getElem hl,Option.getD_some]
set_option maxRecDepth 100000 in
set_option maxHeartbeats 4000000 in
theorem SmallD (s:ByteArray) (w:World) (hs:s.size≤100000000) :
  Calls Tryz.prog 65 #[.string s] w fun e w'=>e = .returned (.string (smS s.data.toList))∧Below w.heap.size w w':=by
 obtain ⟨i0,hi,hz0,hz1,hz2⟩:=info_parts Tryz.infoU8
 have HE:Hid (strOfNums (s.data.toList.map fun b=>((smB b).toNat:Int))=smS s.data.toList):=smS_nums _
 generalize smS s.data.toList=R at *
 go_enter Tryz.func65,Tryz.ntmps65
 go_wp2
 go_loopw [3,4] (fun b t wr=>∃ (k:Nat) (F:List Int),k≤s.size∧t = .int .i64 k∧OwnK 5 .u8 wr w.heap.size b F∧Hid (F=(s.data.toList.take k).map fun b=>((smB b).toNat:Int))∧Below w.heap.size w wr) (fun _ t _=>s.size-(intOf t).toNat)
 case atStart=>exact ⟨0,[],by omega,rfl,OwnK.nil _ _ _ _,(show []=List.map _ _ from rfl),Below.refl _ _⟩
 case round =>
  obtain ⟨k,F,hk,rfl,hown,HF,hbel⟩:=hrel
  have HFL:Hid (F.length=k):=by show _=_;rw [HF.out,List.length_map,List.length_take,len_list];omega
  by_cases hlt:k<s.size
  ·have hil:(k:Int)<(s.size:Int):=by omega
   have hk0:(0:Int)≤(k:Int):=by omega
   have hby:=getD_get hlt
   have HC:=fun u=>smallD (s.data.toList.getD k 0) u
   have hw1:IntKind.i64.wrap ((k:Int)+1)=(k:Int)+1:=by rw [IntKind.wrap_i64];omega
   have HF2:Hid (F++[((smB (s.data.toList.getD k 0)).toNat:Int)]=(s.data.toList.take (k+1)).map fun b=>((smB b).toNat:Int)):=by
    show _=_
    rw [HF.out,take_byte hlt,List.map_append];rfl
   generalize ((smB (s.data.toList.getD k 0)).toNat:Int)=D at *
   generalize ((s.data.toList.getD k 0).toNat:Int)=C at *
   obtain ⟨oa,oc,rfl⟩:=hown.form
   have hs2:=Below.size hbel
   have hrow:∀ q,(Value.slice oa F.length oc).ownBlock=some q→w.heap.size≤q:=fun q hq=>(hown.lt q hq).1
   have hFl:F.length≤200000000:=by rw [HFL.out];omega
   clear HF HFL HE
   go_wp2_with fail
   refine (HC _).mono ?_
   rintro e w1 ⟨rfl,rfl⟩
   clear HC
   go_wp2_with (at_builtin;refine wpList_appendK 147 5 .u8 1 i0 Tryz.underlying147 hi hz0 hz1 hz2 (by decide) _ rfl _ _ rfl w.heap.size (.slice oa F.length oc) F F.length (show F.length=F.length from rfl) rfl (hown.alloc _) w1.heap.size _ D rfl (cell_new1 rfl) (by omega) (by simp;omega) (w1.heap.size+1) (by simp) ?_)
   intro g3 cap3 w3 hown3 hgrow _ _
   have hbel1:Below w.heap.size w w3:=hbel.trans (((Below.refl _ _).alloc (by omega) _).trans (grown_below hgrow (by simp;omega) hrow))
   clear hgrow hown hrow hbel
   go_wp2
   go_roundw
   case rel=>exact ⟨k+1,F++[D],by omega,by go_num,by simpa using hown3,HF2,hbel1⟩
   case measure=>simp [intOf];omega
  ·have hil:¬ (k:Int)<(s.size:Int):=by omega
   have HE2:Hid (strOfNums F=R):=by
    show _=_
    rw [HF.out,List.take_of_length_le (by simp;omega)];exact HE.out
   rcases hown.row with ⟨rfl,hF0⟩|⟨g2,cap2,rfl,hc2,hB2,hl2,hcl2⟩
   ·have hcv:=run_convert_bytes_nil (P:=Tryz.prog) wr 147 5 Tryz.underlying147 Tryz.underlying5 0 0 9 Tryz.underlying9
    have hR:ByteArray.empty=R:=by rw [← HE2.out,hF0];rfl
    rw [hR] at hcv
    clear hown HF HFL HE HE2 hF0 hR
    go_wp2
    go_ret
    exact ⟨rfl,hbel⟩
   ·have hcv:=run_convert_bytes_arg (P:=Tryz.prog) wr 147 5 Tryz.underlying147 Tryz.underlying5 g2 0 F.length cap2 F rfl (fun i hi=>by
     rw [Nat.zero_add,hcl2 i hi]) 9 Tryz.underlying9
    rw [HE2.out] at hcv
    clear hcl2 hown HF HFL HE HE2
    go_wp2
    go_ret
    exact ⟨rfl,hbel⟩
theorem str_is {s:ByteArray} {l:List UInt8} (h:¬ s.data.toList=l):(s.toList == l)=false:=by
 rw [beq_eq_false_iff_ne,ByteArray.toList_eq];exact h
def prS (l:List UInt8):ByteArray:=⟨(prW (l.map smB)).toArray⟩
set_option maxRecDepth 100000 in
theorem secondD (s:ByteArray) (w:World) (hs:s.size≤100000000) :
  Calls Tryz.prog 63 #[.string s] w fun e w'=>e = .returned (.string (prS s.data.toList))∧Below w.heap.size w w':=by
 have HS:=fun u=>SmallD s u hs
 have hl:=smS_list s.data.toList
 obtain ⟨T,hT⟩:∃ T,smS s.data.toList=T:=⟨_,rfl⟩
 rw [hT] at HS hl
 clear hT
 by_cases h1:T.data.toList=[115,117,98,106,101,99,116]
 ·obtain rfl:T=⟨#[115,117,98,106,101,99,116]⟩:=ba_eq h1
  rw [show prS s.data.toList=⟨#[116,111]⟩ from by unfold prS;rw [← hl];rfl]
  clear hl h1
  go_enter Tryz.func63,Tryz.ntmps63
  go_wp2_with fail
  refine (HS _).mono ?_
  rintro e w1 ⟨rfl,hb⟩
  go_wp2
  go_ret
  exact ⟨rfl,hb⟩
 ·by_cases h2:T.data.toList=[115,117,99,104]
  ·obtain rfl:T=⟨#[115,117,99,104]⟩:=ba_eq h2
   rw [show prS s.data.toList=⟨#[116,104,97,116]⟩ from by unfold prS;rw [← hl];rfl]
   clear hl h1 h2
   go_enter Tryz.func63,Tryz.ntmps63
   go_wp2_with fail
   refine (HS _).mono ?_
   rintro e w1 ⟨rfl,hb⟩
   go_wp2
   go_ret
   exact ⟨rfl,hb⟩
  ·rw [show prS s.data.toList=⟨#[]⟩ from by unfold prS prW;rw [← hl,if_neg h1,if_neg h2]]
   have b1:=str_is h1
   have b2:=str_is h2
   clear hl h1 h2
   go_enter Tryz.func63,Tryz.ntmps63
   go_wp2_with fail
   refine (HS _).mono ?_
   rintro e w1 ⟨rfl,hb⟩
   go_wp2
   go_ret
   exact ⟨rfl,hb⟩
theorem dg_of (c:UInt8):dgB.contains c=decide (48≤(c.toNat:Int)∧(c.toNat:Int)≤57) :=
 byte_all (p:=fun c=>dgB.contains c=decide (48≤(c.toNat:Int)∧(c.toNat:Int)≤57)) (by decide +kernel) c
set_option maxRecDepth 100000 in
theorem digitD (s:ByteArray) (k:Nat) (w:World) (hk:k<s.size) :
  Calls Tryz.prog 32 #[.string s,.int .i64 k] w fun e w'=>e = .returned (.bool (dgB.contains (s.data.toList.getD k 0)))∧w'=w:=by
 have hby:=getD_get hk
 have hil:(k:Int)<(s.size:Int):=by omega
 have hk0:(0:Int)≤(k:Int):=by omega
 rw [dg_of]
 generalize ((s.data.toList.getD k 0).toNat:Int)=C at *
 by_cases h1:(48:Int)≤C
 ·by_cases h2:C≤57
  ·rw [show decide (48≤C∧C≤57)=true from decide_eq_true ⟨h1,h2⟩]
   go_enter Tryz.func32,Tryz.ntmps32
   go_wp2
   go_ret
   exact ⟨rfl,rfl⟩
  ·rw [show decide (48≤C∧C≤57)=false from decide_eq_false (by omega)]
   go_enter Tryz.func32,Tryz.ntmps32
   go_wp2
   go_ret
   exact ⟨rfl,rfl⟩
 ·rw [show decide (48≤C∧C≤57)=false from decide_eq_false (by omega)]
  go_enter Tryz.func32,Tryz.ntmps32
  go_wp2
  go_ret
  exact ⟨rfl,rfl⟩
theorem lone0 (s:ByteArray) (w:World) (HS:∀ u,Calls Tryz.prog 65 #[.string s] u fun e w'=>e = .returned (.string ⟨#[109,97,120]⟩)∧Below u.heap.size u w') :
  Calls Tryz.prog 66 #[.string s] w fun e w'=>e = .returned (.int .i64 1)∧Below w.heap.size w w':=by
 go_enter Tryz.func66,Tryz.ntmps66
 go_wp2_with fail
 refine (HS _).mono ?_
 rintro e w1 ⟨rfl,hb⟩
 go_wp2
 go_ret
 exact ⟨rfl,hb⟩
theorem lone1 (s:ByteArray) (w:World) (HS:∀ u,Calls Tryz.prog 65 #[.string s] u fun e w'=>e = .returned (.string ⟨#[109,97,120,105,109,105,122,101]⟩)∧Below u.heap.size u w') :
  Calls Tryz.prog 66 #[.string s] w fun e w'=>e = .returned (.int .i64 1)∧Below w.heap.size w w':=by
 go_enter Tryz.func66,Tryz.ntmps66
 go_wp2_with fail
 refine (HS _).mono ?_
 rintro e w1 ⟨rfl,hb⟩
 go_wp2
 go_ret
 exact ⟨rfl,hb⟩
theorem lone2 (s:ByteArray) (w:World) (HS:∀ u,Calls Tryz.prog 65 #[.string s] u fun e w'=>e = .returned (.string ⟨#[109,97,120,105,109,105,115,101]⟩)∧Below u.heap.size u w') :
  Calls Tryz.prog 66 #[.string s] w fun e w'=>e = .returned (.int .i64 1)∧Below w.heap.size w w':=by
 go_enter Tryz.func66,Tryz.ntmps66
 go_wp2_with fail
 refine (HS _).mono ?_
 rintro e w1 ⟨rfl,hb⟩
 go_wp2
 go_ret
 exact ⟨rfl,hb⟩
theorem lone3 (s:ByteArray) (w:World) (HS:∀ u,Calls Tryz.prog 65 #[.string s] u fun e w'=>e = .returned (.string ⟨#[109,97,120,105,109,117,109]⟩)∧Below u.heap.size u w') :
  Calls Tryz.prog 66 #[.string s] w fun e w'=>e = .returned (.int .i64 1)∧Below w.heap.size w w':=by
 go_enter Tryz.func66,Tryz.ntmps66
 go_wp2_with fail
 refine (HS _).mono ?_
 rintro e w1 ⟨rfl,hb⟩
 go_wp2
 go_ret
 exact ⟨rfl,hb⟩
theorem lone4 (s:ByteArray) (w:World) (HS:∀ u,Calls Tryz.prog 65 #[.string s] u fun e w'=>e = .returned (.string ⟨#[109,105,110]⟩)∧Below u.heap.size u w') :
  Calls Tryz.prog 66 #[.string s] w fun e w'=>e = .returned (.int .i64 2)∧Below w.heap.size w w':=by
 go_enter Tryz.func66,Tryz.ntmps66
 go_wp2_with fail
 refine (HS _).mono ?_
 rintro e w1 ⟨rfl,hb⟩
 go_wp2
 go_ret
 exact ⟨rfl,hb⟩
theorem lone5 (s:ByteArray) (w:World) (HS:∀ u,Calls Tryz.prog 65 #[.string s] u fun e w'=>e = .returned (.string ⟨#[109,105,110,105,109,105,122,101]⟩)∧Below u.heap.size u w') :
  Calls Tryz.prog 66 #[.string s] w fun e w'=>e = .returned (.int .i64 2)∧Below w.heap.size w w':=by
 go_enter Tryz.func66,Tryz.ntmps66
 go_wp2_with fail
 refine (HS _).mono ?_
 rintro e w1 ⟨rfl,hb⟩
 go_wp2
 go_ret
 exact ⟨rfl,hb⟩
theorem lone6 (s:ByteArray) (w:World) (HS:∀ u,Calls Tryz.prog 65 #[.string s] u fun e w'=>e = .returned (.string ⟨#[109,105,110,105,109,105,115,101]⟩)∧Below u.heap.size u w') :
  Calls Tryz.prog 66 #[.string s] w fun e w'=>e = .returned (.int .i64 2)∧Below w.heap.size w w':=by
 go_enter Tryz.func66,Tryz.ntmps66
 go_wp2_with fail
 refine (HS _).mono ?_
 rintro e w1 ⟨rfl,hb⟩
 go_wp2
 go_ret
 exact ⟨rfl,hb⟩
theorem lone7 (s:ByteArray) (w:World) (HS:∀ u,Calls Tryz.prog 65 #[.string s] u fun e w'=>e = .returned (.string ⟨#[109,105,110,105,109,117,109]⟩)∧Below u.heap.size u w') :
  Calls Tryz.prog 66 #[.string s] w fun e w'=>e = .returned (.int .i64 2)∧Below w.heap.size w w':=by
 go_enter Tryz.func66,Tryz.ntmps66
 go_wp2_with fail
 refine (HS _).mono ?_
 rintro e w1 ⟨rfl,hb⟩
 go_wp2
 go_ret
 exact ⟨rfl,hb⟩
theorem lone8 (s:ByteArray) (w:World) (HS:∀ u,Calls Tryz.prog 65 #[.string s] u fun e w'=>e = .returned (.string ⟨#[115,116]⟩)∧Below u.heap.size u w') :
  Calls Tryz.prog 66 #[.string s] w fun e w'=>e = .returned (.int .i64 3)∧Below w.heap.size w w':=by
 go_enter Tryz.func66,Tryz.ntmps66
 go_wp2_with fail
 refine (HS _).mono ?_
 rintro e w1 ⟨rfl,hb⟩
 go_wp2
 go_ret
 exact ⟨rfl,hb⟩
theorem lone9 (s:ByteArray) (w:World) (HS:∀ u,Calls Tryz.prog 65 #[.string s] u fun e w'=>e = .returned (.string ⟨#[115,46,116,46]⟩)∧Below u.heap.size u w') :
  Calls Tryz.prog 66 #[.string s] w fun e w'=>e = .returned (.int .i64 3)∧Below w.heap.size w w':=by
 go_enter Tryz.func66,Tryz.ntmps66
 go_wp2_with fail
 refine (HS _).mono ?_
 rintro e w1 ⟨rfl,hb⟩
 go_wp2
 go_ret
 exact ⟨rfl,hb⟩
theorem lone10 (s:ByteArray) (w:World) (HS:∀ u,Calls Tryz.prog 65 #[.string s] u fun e w'=>e = .returned (.string ⟨#[115,116,46]⟩)∧Below u.heap.size u w') :
  Calls Tryz.prog 66 #[.string s] w fun e w'=>e = .returned (.int .i64 3)∧Below w.heap.size w w':=by
 go_enter Tryz.func66,Tryz.ntmps66
 go_wp2_with fail
 refine (HS _).mono ?_
 rintro e w1 ⟨rfl,hb⟩
 go_wp2
 go_ret
 exact ⟨rfl,hb⟩
theorem lone11 (s:ByteArray) (w:World) (HS:∀ u,Calls Tryz.prog 65 #[.string s] u fun e w'=>e = .returned (.string ⟨#[98,111,117,110,100,115]⟩)∧Below u.heap.size u w') :
  Calls Tryz.prog 66 #[.string s] w fun e w'=>e = .returned (.int .i64 4)∧Below w.heap.size w w':=by
 go_enter Tryz.func66,Tryz.ntmps66
 go_wp2_with fail
 refine (HS _).mono ?_
 rintro e w1 ⟨rfl,hb⟩
 go_wp2
 go_ret
 exact ⟨rfl,hb⟩
theorem lone12 (s:ByteArray) (w:World) (HS:∀ u,Calls Tryz.prog 65 #[.string s] u fun e w'=>e = .returned (.string ⟨#[98,111,117,110,100]⟩)∧Below u.heap.size u w') :
  Calls Tryz.prog 66 #[.string s] w fun e w'=>e = .returned (.int .i64 4)∧Below w.heap.size w w':=by
 go_enter Tryz.func66,Tryz.ntmps66
 go_wp2_with fail
 refine (HS _).mono ?_
 rintro e w1 ⟨rfl,hb⟩
 go_wp2
 go_ret
 exact ⟨rfl,hb⟩
theorem lone13 (s:ByteArray) (w:World) (HS:∀ u,Calls Tryz.prog 65 #[.string s] u fun e w'=>e = .returned (.string ⟨#[103,101,110,101,114,97,108]⟩)∧Below u.heap.size u w') :
  Calls Tryz.prog 66 #[.string s] w fun e w'=>e = .returned (.int .i64 5)∧Below w.heap.size w w':=by
 go_enter Tryz.func66,Tryz.ntmps66
 go_wp2_with fail
 refine (HS _).mono ?_
 rintro e w1 ⟨rfl,hb⟩
 go_wp2
 go_ret
 exact ⟨rfl,hb⟩
theorem lone14 (s:ByteArray) (w:World) (HS:∀ u,Calls Tryz.prog 65 #[.string s] u fun e w'=>e = .returned (.string ⟨#[103,101,110,101,114,97,108,115]⟩)∧Below u.heap.size u w') :
  Calls Tryz.prog 66 #[.string s] w fun e w'=>e = .returned (.int .i64 5)∧Below w.heap.size w w':=by
 go_enter Tryz.func66,Tryz.ntmps66
 go_wp2_with fail
 refine (HS _).mono ?_
 rintro e w1 ⟨rfl,hb⟩
 go_wp2
 go_ret
 exact ⟨rfl,hb⟩
theorem lone15 (s:ByteArray) (w:World) (HS:∀ u,Calls Tryz.prog 65 #[.string s] u fun e w'=>e = .returned (.string ⟨#[103,101,110]⟩)∧Below u.heap.size u w') :
  Calls Tryz.prog 66 #[.string s] w fun e w'=>e = .returned (.int .i64 5)∧Below w.heap.size w w':=by
 go_enter Tryz.func66,Tryz.ntmps66
 go_wp2_with fail
 refine (HS _).mono ?_
 rintro e w1 ⟨rfl,hb⟩
 go_wp2
 go_ret
 exact ⟨rfl,hb⟩
theorem lone16 (s:ByteArray) (w:World) (HS:∀ u,Calls Tryz.prog 65 #[.string s] u fun e w'=>e = .returned (.string ⟨#[105,110,116,101,103,101,114]⟩)∧Below u.heap.size u w') :
  Calls Tryz.prog 66 #[.string s] w fun e w'=>e = .returned (.int .i64 5)∧Below w.heap.size w w':=by
 go_enter Tryz.func66,Tryz.ntmps66
 go_wp2_with fail
 refine (HS _).mono ?_
 rintro e w1 ⟨rfl,hb⟩
 go_wp2
 go_ret
 exact ⟨rfl,hb⟩
theorem lone17 (s:ByteArray) (w:World) (HS:∀ u,Calls Tryz.prog 65 #[.string s] u fun e w'=>e = .returned (.string ⟨#[105,110,116,101,103,101,114,115]⟩)∧Below u.heap.size u w') :
  Calls Tryz.prog 66 #[.string s] w fun e w'=>e = .returned (.int .i64 5)∧Below w.heap.size w w':=by
 go_enter Tryz.func66,Tryz.ntmps66
 go_wp2_with fail
 refine (HS _).mono ?_
 rintro e w1 ⟨rfl,hb⟩
 go_wp2
 go_ret
 exact ⟨rfl,hb⟩
theorem lone18 (s:ByteArray) (w:World) (HS:∀ u,Calls Tryz.prog 65 #[.string s] u fun e w'=>e = .returned (.string ⟨#[105,110,116]⟩)∧Below u.heap.size u w') :
  Calls Tryz.prog 66 #[.string s] w fun e w'=>e = .returned (.int .i64 5)∧Below w.heap.size w w':=by
 go_enter Tryz.func66,Tryz.ntmps66
 go_wp2_with fail
 refine (HS _).mono ?_
 rintro e w1 ⟨rfl,hb⟩
 go_wp2
 go_ret
 exact ⟨rfl,hb⟩
theorem lone19 (s:ByteArray) (w:World) (HS:∀ u,Calls Tryz.prog 65 #[.string s] u fun e w'=>e = .returned (.string ⟨#[98,105,110,97,114,121]⟩)∧Below u.heap.size u w') :
  Calls Tryz.prog 66 #[.string s] w fun e w'=>e = .returned (.int .i64 6)∧Below w.heap.size w w':=by
 go_enter Tryz.func66,Tryz.ntmps66
 go_wp2_with fail
 refine (HS _).mono ?_
 rintro e w1 ⟨rfl,hb⟩
 go_wp2
 go_ret
 exact ⟨rfl,hb⟩
theorem lone20 (s:ByteArray) (w:World) (HS:∀ u,Calls Tryz.prog 65 #[.string s] u fun e w'=>e = .returned (.string ⟨#[98,105,110,97,114,105,101,115]⟩)∧Below u.heap.size u w') :
  Calls Tryz.prog 66 #[.string s] w fun e w'=>e = .returned (.int .i64 6)∧Below w.heap.size w w':=by
 go_enter Tryz.func66,Tryz.ntmps66
 go_wp2_with fail
 refine (HS _).mono ?_
 rintro e w1 ⟨rfl,hb⟩
 go_wp2
 go_ret
 exact ⟨rfl,hb⟩
theorem lone21 (s:ByteArray) (w:World) (HS:∀ u,Calls Tryz.prog 65 #[.string s] u fun e w'=>e = .returned (.string ⟨#[98,105,110]⟩)∧Below u.heap.size u w') :
  Calls Tryz.prog 66 #[.string s] w fun e w'=>e = .returned (.int .i64 6)∧Below w.heap.size w w':=by
 go_enter Tryz.func66,Tryz.ntmps66
 go_wp2_with fail
 refine (HS _).mono ?_
 rintro e w1 ⟨rfl,hb⟩
 go_wp2
 go_ret
 exact ⟨rfl,hb⟩
theorem lone22 (s:ByteArray) (w:World) (HS:∀ u,Calls Tryz.prog 65 #[.string s] u fun e w'=>e = .returned (.string ⟨#[102,114,101,101]⟩)∧Below u.heap.size u w') :
  Calls Tryz.prog 66 #[.string s] w fun e w'=>e = .returned (.int .i64 7)∧Below w.heap.size w w':=by
 go_enter Tryz.func66,Tryz.ntmps66
 go_wp2_with fail
 refine (HS _).mono ?_
 rintro e w1 ⟨rfl,hb⟩
 go_wp2
 go_ret
 exact ⟨rfl,hb⟩
theorem lone23 (s:ByteArray) (w:World) (HS:∀ u,Calls Tryz.prog 65 #[.string s] u fun e w'=>e = .returned (.string ⟨#[105,110,102,105,110,105,116,121]⟩)∧Below u.heap.size u w') :
  Calls Tryz.prog 66 #[.string s] w fun e w'=>e = .returned (.int .i64 8)∧Below w.heap.size w w':=by
 go_enter Tryz.func66,Tryz.ntmps66
 go_wp2_with fail
 refine (HS _).mono ?_
 rintro e w1 ⟨rfl,hb⟩
 go_wp2
 go_ret
 exact ⟨rfl,hb⟩
theorem lone24 (s:ByteArray) (w:World) (HS:∀ u,Calls Tryz.prog 65 #[.string s] u fun e w'=>e = .returned (.string ⟨#[105,110,102]⟩)∧Below u.heap.size u w') :
  Calls Tryz.prog 66 #[.string s] w fun e w'=>e = .returned (.int .i64 8)∧Below w.heap.size w w':=by
 go_enter Tryz.func66,Tryz.ntmps66
 go_wp2_with fail
 refine (HS _).mono ?_
 rintro e w1 ⟨rfl,hb⟩
 go_wp2
 go_ret
 exact ⟨rfl,hb⟩
theorem lone25 (s:ByteArray) (w:World) (HS:∀ u,Calls Tryz.prog 65 #[.string s] u fun e w'=>e = .returned (.string ⟨#[101,110,100]⟩)∧Below u.heap.size u w') :
  Calls Tryz.prog 66 #[.string s] w fun e w'=>e = .returned (.int .i64 9)∧Below w.heap.size w w':=by
 go_enter Tryz.func66,Tryz.ntmps66
 go_wp2_with fail
 refine (HS _).mono ?_
 rintro e w1 ⟨rfl,hb⟩
 go_wp2
 go_ret
 exact ⟨rfl,hb⟩
set_option maxRecDepth 100000 in
theorem loneN (s T:ByteArray) (w:World) (HS:∀ u,Calls Tryz.prog 65 #[.string s] u fun e w'=>e = .returned (.string T)∧Below u.heap.size u w')
  (b0:(T.toList == ([109,97,120]:List UInt8))=false)
  (b1:(T.toList == ([109,97,120,105,109,105,122,101]:List UInt8))=false)
  (b2:(T.toList == ([109,97,120,105,109,105,115,101]:List UInt8))=false)
  (b3:(T.toList == ([109,97,120,105,109,117,109]:List UInt8))=false)
  (b4:(T.toList == ([109,105,110]:List UInt8))=false)
  (b5:(T.toList == ([109,105,110,105,109,105,122,101]:List UInt8))=false)
  (b6:(T.toList == ([109,105,110,105,109,105,115,101]:List UInt8))=false)
  (b7:(T.toList == ([109,105,110,105,109,117,109]:List UInt8))=false)
  (b8:(T.toList == ([115,116]:List UInt8))=false)
  (b9:(T.toList == ([115,46,116,46]:List UInt8))=false)
  (b10:(T.toList == ([115,116,46]:List UInt8))=false)
  (b11:(T.toList == ([98,111,117,110,100,115]:List UInt8))=false)
  (b12:(T.toList == ([98,111,117,110,100]:List UInt8))=false)
  (b13:(T.toList == ([103,101,110,101,114,97,108]:List UInt8))=false)
  (b14:(T.toList == ([103,101,110,101,114,97,108,115]:List UInt8))=false)
  (b15:(T.toList == ([103,101,110]:List UInt8))=false)
  (b16:(T.toList == ([105,110,116,101,103,101,114]:List UInt8))=false)
  (b17:(T.toList == ([105,110,116,101,103,101,114,115]:List UInt8))=false)
  (b18:(T.toList == ([105,110,116]:List UInt8))=false)
  (b19:(T.toList == ([98,105,110,97,114,121]:List UInt8))=false)
  (b20:(T.toList == ([98,105,110,97,114,105,101,115]:List UInt8))=false)
  (b21:(T.toList == ([98,105,110]:List UInt8))=false)
  (b22:(T.toList == ([102,114,101,101]:List UInt8))=false)
  (b23:(T.toList == ([105,110,102,105,110,105,116,121]:List UInt8))=false)
  (b24:(T.toList == ([105,110,102]:List UInt8))=false)
  (b25:(T.toList == ([101,110,100]:List UInt8))=false)
  : Calls Tryz.prog 66 #[.string s] w fun e w'=>e = .returned (.int .i64 0)∧Below w.heap.size w w':=by
 go_enter Tryz.func66,Tryz.ntmps66
 go_wp2_with fail
 refine (HS _).mono ?_
 rintro e w1 ⟨rfl,hb⟩
 go_wp2
 go_ret
 exact ⟨rfl,hb⟩
theorem loneD (s:ByteArray) (w:World) (hs:s.size≤100000000) :
  Calls Tryz.prog 66 #[.string s] w fun e w'=>e = .returned (.int .i64 (lookW loneT (s.data.toList.map smB):Nat))∧Below w.heap.size w w':=by
 have HS:=fun u=>SmallD s u hs
 have hl:=smS_list s.data.toList
 rw [← hl]
 generalize smS s.data.toList=T at *
 clear hl
 by_cases h0:T.data.toList=[109,97,120]
 ·obtain rfl:T=⟨#[109,97,120]⟩:=ba_eq h0
  rw [show lookW loneT (⟨#[109,97,120]⟩:ByteArray).data.toList=1 from by decide +kernel]
  exact lone0 s w HS
 by_cases h1:T.data.toList=[109,97,120,105,109,105,122,101]
 ·obtain rfl:T=⟨#[109,97,120,105,109,105,122,101]⟩:=ba_eq h1
  rw [show lookW loneT (⟨#[109,97,120,105,109,105,122,101]⟩:ByteArray).data.toList=1 from by decide +kernel]
  exact lone1 s w HS
 by_cases h2:T.data.toList=[109,97,120,105,109,105,115,101]
 ·obtain rfl:T=⟨#[109,97,120,105,109,105,115,101]⟩:=ba_eq h2
  rw [show lookW loneT (⟨#[109,97,120,105,109,105,115,101]⟩:ByteArray).data.toList=1 from by decide +kernel]
  exact lone2 s w HS
 by_cases h3:T.data.toList=[109,97,120,105,109,117,109]
 ·obtain rfl:T=⟨#[109,97,120,105,109,117,109]⟩:=ba_eq h3
  rw [show lookW loneT (⟨#[109,97,120,105,109,117,109]⟩:ByteArray).data.toList=1 from by decide +kernel]
  exact lone3 s w HS
 by_cases h4:T.data.toList=[109,105,110]
 ·obtain rfl:T=⟨#[109,105,110]⟩:=ba_eq h4
  rw [show lookW loneT (⟨#[109,105,110]⟩:ByteArray).data.toList=2 from by decide +kernel]
  exact lone4 s w HS
 by_cases h5:T.data.toList=[109,105,110,105,109,105,122,101]
 ·obtain rfl:T=⟨#[109,105,110,105,109,105,122,101]⟩:=ba_eq h5
  rw [show lookW loneT (⟨#[109,105,110,105,109,105,122,101]⟩:ByteArray).data.toList=2 from by decide +kernel]
  exact lone5 s w HS
 by_cases h6:T.data.toList=[109,105,110,105,109,105,115,101]
 ·obtain rfl:T=⟨#[109,105,110,105,109,105,115,101]⟩:=ba_eq h6
  rw [show lookW loneT (⟨#[109,105,110,105,109,105,115,101]⟩:ByteArray).data.toList=2 from by decide +kernel]
  exact lone6 s w HS
 by_cases h7:T.data.toList=[109,105,110,105,109,117,109]
 ·obtain rfl:T=⟨#[109,105,110,105,109,117,109]⟩:=ba_eq h7
  rw [show lookW loneT (⟨#[109,105,110,105,109,117,109]⟩:ByteArray).data.toList=2 from by decide +kernel]
  exact lone7 s w HS
 by_cases h8:T.data.toList=[115,116]
 ·obtain rfl:T=⟨#[115,116]⟩:=ba_eq h8
  rw [show lookW loneT (⟨#[115,116]⟩:ByteArray).data.toList=3 from by decide +kernel]
  exact lone8 s w HS
 by_cases h9:T.data.toList=[115,46,116,46]
 ·obtain rfl:T=⟨#[115,46,116,46]⟩:=ba_eq h9
  rw [show lookW loneT (⟨#[115,46,116,46]⟩:ByteArray).data.toList=3 from by decide +kernel]
  exact lone9 s w HS
 by_cases h10:T.data.toList=[115,116,46]
 ·obtain rfl:T=⟨#[115,116,46]⟩:=ba_eq h10
  rw [show lookW loneT (⟨#[115,116,46]⟩:ByteArray).data.toList=3 from by decide +kernel]
  exact lone10 s w HS
 by_cases h11:T.data.toList=[98,111,117,110,100,115]
 ·obtain rfl:T=⟨#[98,111,117,110,100,115]⟩:=ba_eq h11
  rw [show lookW loneT (⟨#[98,111,117,110,100,115]⟩:ByteArray).data.toList=4 from by decide +kernel]
  exact lone11 s w HS
 by_cases h12:T.data.toList=[98,111,117,110,100]
 ·obtain rfl:T=⟨#[98,111,117,110,100]⟩:=ba_eq h12
  rw [show lookW loneT (⟨#[98,111,117,110,100]⟩:ByteArray).data.toList=4 from by decide +kernel]
  exact lone12 s w HS
 by_cases h13:T.data.toList=[103,101,110,101,114,97,108]
 ·obtain rfl:T=⟨#[103,101,110,101,114,97,108]⟩:=ba_eq h13
  rw [show lookW loneT (⟨#[103,101,110,101,114,97,108]⟩:ByteArray).data.toList=5 from by decide +kernel]
  exact lone13 s w HS
 by_cases h14:T.data.toList=[103,101,110,101,114,97,108,115]
 ·obtain rfl:T=⟨#[103,101,110,101,114,97,108,115]⟩:=ba_eq h14
  rw [show lookW loneT (⟨#[103,101,110,101,114,97,108,115]⟩:ByteArray).data.toList=5 from by decide +kernel]
  exact lone14 s w HS
 by_cases h15:T.data.toList=[103,101,110]
 ·obtain rfl:T=⟨#[103,101,110]⟩:=ba_eq h15
  rw [show lookW loneT (⟨#[103,101,110]⟩:ByteArray).data.toList=5 from by decide +kernel]
  exact lone15 s w HS
 by_cases h16:T.data.toList=[105,110,116,101,103,101,114]
 ·obtain rfl:T=⟨#[105,110,116,101,103,101,114]⟩:=ba_eq h16
  rw [show lookW loneT (⟨#[105,110,116,101,103,101,114]⟩:ByteArray).data.toList=5 from by decide +kernel]
  exact lone16 s w HS
 by_cases h17:T.data.toList=[105,110,116,101,103,101,114,115]
 ·obtain rfl:T=⟨#[105,110,116,101,103,101,114,115]⟩:=ba_eq h17
  rw [show lookW loneT (⟨#[105,110,116,101,103,101,114,115]⟩:ByteArray).data.toList=5 from by decide +kernel]
  exact lone17 s w HS
 by_cases h18:T.data.toList=[105,110,116]
 ·obtain rfl:T=⟨#[105,110,116]⟩:=ba_eq h18
  rw [show lookW loneT (⟨#[105,110,116]⟩:ByteArray).data.toList=5 from by decide +kernel]
  exact lone18 s w HS
 by_cases h19:T.data.toList=[98,105,110,97,114,121]
 ·obtain rfl:T=⟨#[98,105,110,97,114,121]⟩:=ba_eq h19
  rw [show lookW loneT (⟨#[98,105,110,97,114,121]⟩:ByteArray).data.toList=6 from by decide +kernel]
  exact lone19 s w HS
 by_cases h20:T.data.toList=[98,105,110,97,114,105,101,115]
 ·obtain rfl:T=⟨#[98,105,110,97,114,105,101,115]⟩:=ba_eq h20
  rw [show lookW loneT (⟨#[98,105,110,97,114,105,101,115]⟩:ByteArray).data.toList=6 from by decide +kernel]
  exact lone20 s w HS
 by_cases h21:T.data.toList=[98,105,110]
 ·obtain rfl:T=⟨#[98,105,110]⟩:=ba_eq h21
  rw [show lookW loneT (⟨#[98,105,110]⟩:ByteArray).data.toList=6 from by decide +kernel]
  exact lone21 s w HS
 by_cases h22:T.data.toList=[102,114,101,101]
 ·obtain rfl:T=⟨#[102,114,101,101]⟩:=ba_eq h22
  rw [show lookW loneT (⟨#[102,114,101,101]⟩:ByteArray).data.toList=7 from by decide +kernel]
  exact lone22 s w HS
 by_cases h23:T.data.toList=[105,110,102,105,110,105,116,121]
 ·obtain rfl:T=⟨#[105,110,102,105,110,105,116,121]⟩:=ba_eq h23
  rw [show lookW loneT (⟨#[105,110,102,105,110,105,116,121]⟩:ByteArray).data.toList=8 from by decide +kernel]
  exact lone23 s w HS
 by_cases h24:T.data.toList=[105,110,102]
 ·obtain rfl:T=⟨#[105,110,102]⟩:=ba_eq h24
  rw [show lookW loneT (⟨#[105,110,102]⟩:ByteArray).data.toList=8 from by decide +kernel]
  exact lone24 s w HS
 by_cases h25:T.data.toList=[101,110,100]
 ·obtain rfl:T=⟨#[101,110,100]⟩:=ba_eq h25
  rw [show lookW loneT (⟨#[101,110,100]⟩:ByteArray).data.toList=9 from by decide +kernel]
  exact lone25 s w HS
 rw [show lookW loneT T.data.toList=0 from look_none fun e he e1=>by
  have hm:e.1 ∈ loneT.map (·.1):=List.mem_map_of_mem he
  rw [e1,show loneT.map (·.1)=[[109,97,120],[109,97,120,105,109,105,122,101],[109,97,120,105,109,105,115,101],[109,97,120,105,109,117,109],[109,105,110],[109,105,110,105,109,105,122,101],[109,105,110,105,109,105,115,101],[109,105,110,105,109,117,109],[115,116],[115,46,116,46],[115,116,46],[98,111,117,110,100,115],[98,111,117,110,100],[103,101,110,101,114,97,108],[103,101,110,101,114,97,108,115],[103,101,110],[105,110,116,101,103,101,114],[105,110,116,101,103,101,114,115],[105,110,116],[98,105,110,97,114,121],[98,105,110,97,114,105,101,115],[98,105,110],[102,114,101,101],[105,110,102,105,110,105,116,121],[105,110,102],[101,110,100]] from by decide +kernel] at hm
  simp only [List.mem_cons,List.not_mem_nil,or_false] at hm
  rcases hm with h|h|h|h|h|h|h|h|h|h|h|h|h|h|h|h|h|h|h|h|h|h|h|h|h|h
  ·exact h0 h
  ·exact h1 h
  ·exact h2 h
  ·exact h3 h
  ·exact h4 h
  ·exact h5 h
  ·exact h6 h
  ·exact h7 h
  ·exact h8 h
  ·exact h9 h
  ·exact h10 h
  ·exact h11 h
  ·exact h12 h
  ·exact h13 h
  ·exact h14 h
  ·exact h15 h
  ·exact h16 h
  ·exact h17 h
  ·exact h18 h
  ·exact h19 h
  ·exact h20 h
  ·exact h21 h
  ·exact h22 h
  ·exact h23 h
  ·exact h24 h
  ·exact h25 h]
 exact loneN s T w HS (str_is h0) (str_is h1) (str_is h2) (str_is h3) (str_is h4) (str_is h5) (str_is h6) (str_is h7) (str_is h8) (str_is h9) (str_is h10) (str_is h11) (str_is h12) (str_is h13) (str_is h14) (str_is h15) (str_is h16) (str_is h17) (str_is h18) (str_is h19) (str_is h20) (str_is h21) (str_is h22) (str_is h23) (str_is h24) (str_is h25)
theorem str_eq {s t:ByteArray} (h:s.data.toList=t.data.toList):(s.toList == t.toList)=true:=by
 rw [ByteArray.toList_eq,ByteArray.toList_eq,h];simp
theorem str_ne2 {s t:ByteArray} (h:¬ s.data.toList=t.data.toList):(s.toList == t.toList)=false:=by
 rw [beq_eq_false_iff_ne,ByteArray.toList_eq,ByteArray.toList_eq];exact h
end Go.Proofs.YtgdilnljjgdinaaGreatDoor
