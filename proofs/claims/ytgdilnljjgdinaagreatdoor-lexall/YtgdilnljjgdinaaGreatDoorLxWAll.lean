import Derived.Test.YtgdilnljjgdinaaGreatDoorWhEAll
import Derived.Lib.Fold
namespace Go.Proofs.YtgdilnljjgdinaaGreatDoor
open Go.RowKit
-- lists of bytes: names,gaps,words
def nmB:List UInt8:=[65,66,67,68,69,70,71,72,73,74,75,76,77,78,79,80,81,82,83,84,85,86,87,88,89,90,97,98,99,100,101,102,103,104,105,106,107,108,109,110,111,112,113,114,115,116,117,118,119,120,121,122,48,49,50,51,52,53,54,55,56,57,33,34,35,36,37,38,40,41,44,46,59,63,64,95,39,96,123,125,126]
def blB:List UInt8:=[32,9,10,13]
def smB (b:UInt8):UInt8:=if 65≤b∧b≤90 then b+32 else b
def gp:Bool→List UInt8→List UInt8
 | _,[]=>[]
 | true,b::l=>if b=10 then gp false l else gp true l
 | false,b::l=>if blB.contains b then gp false l else if b=92 then gp true l else b::l
theorem gp_len (m:Bool) (l:List UInt8):(gp m l).length≤l.length:=by
 induction l generalizing m with
 | nil=>cases m <;> exact Nat.le_refl _
 | cons b l ih =>
  cases m
  ·unfold gp
   split
   ·have:=ih false;simp;omega
   ·split
    ·have:=ih true;simp;omega
    ·exact Nat.le_refl _
  ·unfold gp
   split
   ·have:=ih false;simp;omega
   ·have:=ih true;simp;omega
theorem gp_blank (l:List UInt8):gp false (l.dropWhile (blB.contains ·))=gp false l:=by
 induction l with
 | nil=>rfl
 | cons b l ih =>
  by_cases h:blB.contains b=true
  ·rw [List.dropWhile_cons_of_pos (by exact h),ih]
   conv=>rhs;unfold gp
   rw [if_pos h]
  ·rw [List.dropWhile_cons_of_neg (by exact h)]
theorem gp_stay {b:UInt8} {l:List UInt8} (h:¬ blB.contains b=true) (h2:¬ b=92):gp false (b::l)=b::l:=by
 unfold gp;rw [if_neg h,if_neg h2]
theorem gp_none (l:List UInt8) (h:(10:UInt8) ∉ l):gp true l=[]:=by
 induction l with
 | nil=>rfl
 | cons b l ih =>
  unfold gp
  rw [if_neg (fun e=>h (by rw [e];exact List.mem_cons_self)),ih (fun e=>h (List.mem_cons_of_mem _ e))]
theorem gp_line (a l:List UInt8) (h:(10:UInt8) ∉ a):gp true (a++10::l)=gp false l:=by
 induction a with
 | nil=>rfl
 | cons b a ih =>
  show (if b=10 then gp false (a++10::l) else gp true (a++10::l))=_
  rw [if_neg (fun e=>h (by rw [e];exact List.mem_cons_self)),ih (fun e=>h (List.mem_cons_of_mem _ e))]
theorem gp_ten (l:List UInt8):gp false (10::l)=gp false l:=rfl
def wordT:List (List UInt8 × Nat):=[([109,97,120],1),([109,97,120,105,109,105,122,101],1),([109,97,120,105,109,105,115,101],1),([109,97,120,105,109,117,109],1),([109,105,110],2),([109,105,110,105,109,105,122,101],2),([109,105,110,105,109,105,115,101],2),([109,105,110,105,109,117,109],2),([115,116],3),([115,46,116,46],3),([115,116,46],3),([115,117,98,106,101,99,116,32,116,111],3),([115,117,99,104,32,116,104,97,116],3),([98,111,117,110,100,115],4),([98,111,117,110,100],4),([103,101,110,101,114,97,108],5),([103,101,110,101,114,97,108,115],5),([103,101,110],5),([105,110,116,101,103,101,114],5),([105,110,116,101,103,101,114,115],5),([105,110,116],5),([98,105,110,97,114,121],6),([98,105,110,97,114,105,101,115],6),([98,105,110],6),([102,114,101,101],7),([105,110,102,105,110,105,116,121],8),([105,110,102],8),([101,110,100],9)]
def loneT:List (List UInt8 × Nat):=[([109,97,120],1),([109,97,120,105,109,105,122,101],1),([109,97,120,105,109,105,115,101],1),([109,97,120,105,109,117,109],1),([109,105,110],2),([109,105,110,105,109,105,122,101],2),([109,105,110,105,109,105,115,101],2),([109,105,110,105,109,117,109],2),([115,116],3),([115,46,116,46],3),([115,116,46],3),([98,111,117,110,100,115],4),([98,111,117,110,100],4),([103,101,110,101,114,97,108],5),([103,101,110,101,114,97,108,115],5),([103,101,110],5),([105,110,116,101,103,101,114],5),([105,110,116,101,103,101,114,115],5),([105,110,116],5),([98,105,110,97,114,121],6),([98,105,110,97,114,105,101,115],6),([98,105,110],6),([102,114,101,101],7),([105,110,102,105,110,105,116,121],8),([105,110,102],8),([101,110,100],9)]
def lookW (T:List (List UInt8 × Nat)) (t:List UInt8):Nat:=((T.find? (fun e=>e.1 == t)).map (·.2)).getD 0
theorem byte_all {p:UInt8→Prop} (h:∀ n:Nat,n<256→p (UInt8.ofNat n)) (b:UInt8):p b:=by
 have:=h b.toNat b.toNat_lt
 rwa [UInt8.ofNat_toNat] at this
theorem smB_nm (b:UInt8):nmB.contains (smB b)=nmB.contains b:=byte_all (p:=fun b=>nmB.contains (smB b)=nmB.contains b) (by decide +kernel) b
theorem fold_tab:∀ n:Nat,n<128→∀ m:Nat,m<128→Lib.foldEq (UInt8.ofNat n) (UInt8.ofNat m)=(smB (UInt8.ofNat n) == smB (UInt8.ofNat m)):=by decide +kernel
theorem fold_sm {x y:UInt8} (hx:x.toNat<128) (hy:y.toNat<128):Lib.foldEq x y=(smB x == smB y):=by
 have:=fold_tab x.toNat hx y.toNat hy
 rwa [UInt8.ofNat_toNat,UInt8.ofNat_toNat] at this
theorem fold_map:∀ {s t:List UInt8},(∀ b ∈ s,b.toNat<128)→(∀ b ∈ t,b.toNat<128)→Lib.equalFold s t=(s.map smB == t.map smB)
 | [],[],_,_=>rfl
 | [],_::_,_,_=>rfl
 | _::_,[],_,_=>rfl
 | x::s,y::t,hs,ht=>by
  have ih:=fold_map (s:=s) (t:=t) (fun b hb=>hs b (List.mem_cons_of_mem _ hb)) (fun b hb=>ht b (List.mem_cons_of_mem _ hb))
  have e:=fold_sm (hs x List.mem_cons_self) (ht y List.mem_cons_self)
  show (Lib.foldEq x y && Lib.equalFold s t)=_
  rw [e,ih]
  rfl
theorem all_sm (l:List UInt8):(l.map smB).all (nmB.contains ·)=l.all (nmB.contains ·):=by
 induction l with
 | nil=>rfl
 | cons b l ih=>rw [List.map_cons,List.all_cons,List.all_cons,ih,smB_nm]
theorem look_none {T:List (List UInt8 × Nat)} {t:List UInt8} (h:∀ e ∈ T,¬ e.1=t):lookW T t=0:=by
 unfold lookW
 rw [List.find?_eq_none.2 (fun e he=>by simpa using h e he)]
 rfl
theorem loneT_nm:∀ e ∈ loneT,e.1.all (nmB.contains ·)=true:=by decide +kernel
theorem loneT_32:∀ e ∈ loneT,(32:UInt8) ∉ e.1:=by decide +kernel
theorem lone_other {t:List UInt8} (h:¬ t.all (nmB.contains ·)=true):lookW loneT t=0 :=
 look_none fun e he e1=>h (by rw [← e1];exact loneT_nm e he)
theorem nm_32:nmB.contains 32=false:=by decide
theorem look_lone {t:List UInt8} (h:t.all (nmB.contains ·)=true):lookW wordT t=lookW loneT t:=by
 have e:wordT=loneT.take 11++([([115,117,98,106,101,99,116,32,116,111],3),([115,117,99,104,32,116,104,97,116],3)]:List (List UInt8 × Nat))++loneT.drop 11:=by decide +kernel
 have e2:loneT=loneT.take 11++loneT.drop 11:=(List.take_append_drop 11 loneT).symm
 have n1:¬ ([115,117,98,106,101,99,116,32,116,111]:List UInt8)=t:=fun e=>by rw [← e] at h;revert h;decide +kernel
 have n2:¬ ([115,117,99,104,32,116,104,97,116]:List UInt8)=t:=fun e=>by rw [← e] at h;revert h;decide +kernel
 have b1:(([115,117,98,106,101,99,116,32,116,111]:List UInt8) == t)=false:=beq_false_of_ne n1
 have b2:(([115,117,99,104,32,116,104,97,116]:List UInt8) == t)=false:=beq_false_of_ne n2
 unfold lookW
 rw [e]
 conv=>rhs;rw [e2]
 simp only [List.find?_append,List.find?_cons,b1,b2,List.find?_nil]
 simp
def prW (a:List UInt8):List UInt8:=if a=[115,117,98,106,101,99,116] then [116,111] else if a=[115,117,99,104] then [116,104,97,116] else []
theorem split32:∀ {x x' y y':List UInt8},(32:UInt8) ∉ x→(32:UInt8) ∉ x'→x++32::y=x'++32::y'→x=x'∧y=y'
 | [],[],_,_,_,_,h=>⟨rfl,by simpa using h⟩
 | [],b::x',_,_,_,h2,h=>by
  have:(32:UInt8)=b:=(List.cons.inj h).1
  exact absurd (by rw [this];exact List.mem_cons_self) h2
 | b::x,[],_,_,h1,_,h=>by
  have:b=(32:UInt8):=(List.cons.inj h).1
  exact absurd (by rw [← this];exact List.mem_cons_self) h1
 | b::x,c::x',y,y',h1,h2,h=>by
  obtain ⟨e1,e2⟩:=List.cons.inj h
  obtain ⟨e3,e4⟩:=split32 (fun m=>h1 (List.mem_cons_of_mem _ m)) (fun m=>h2 (List.mem_cons_of_mem _ m)) e2
  exact ⟨by rw [e1,e3],e4⟩
theorem no32 {l:List UInt8} (h:l.all (nmB.contains ·)=true):(32:UInt8) ∉ l:=fun m=>by
 have:=List.all_eq_true.1 h 32 m
 rw [nm_32] at this;cases this
theorem wordT_is:∀ e ∈ wordT,e ∈ loneT∨e=([115,117,98,106,101,99,116]++32::[116,111],3)∨e=([115,117,99,104]++32::[116,104,97,116],3):=by decide +kernel
theorem look_pair {a r:List UInt8} (ha:a.all (nmB.contains ·)=true) (hr:r.all (nmB.contains ·)=true):lookW wordT (a++32::r)=if ¬ prW a=[]∧r=prW a then 3 else 0:=by
 by_cases h1:a=[115,117,98,106,101,99,116]∧r=[116,111]
 ·obtain ⟨rfl,rfl⟩:=h1
  decide +kernel
 ·by_cases h2:a=[115,117,99,104]∧r=[116,104,97,116]
  ·obtain ⟨rfl,rfl⟩:=h2
   decide +kernel
  ·rw [if_neg]
   ·refine look_none fun e he e1=>?_
    rcases wordT_is e he with h|h|h
    ·exact loneT_32 e h (by rw [e1];exact List.mem_append_right _ List.mem_cons_self)
    ·rw [h] at e1
     exact h1 (let q:=split32 (by decide) (no32 ha) e1;⟨q.1.symm,q.2.symm⟩)
    ·rw [h] at e1
     exact h2 (let q:=split32 (by decide) (no32 ha) e1;⟨q.1.symm,q.2.symm⟩)
   ·rintro ⟨h3,h4⟩
    unfold prW at h3 h4
    split at h3
    ·rename_i h;rw [if_pos h] at h4;exact h1 ⟨h,h4⟩
    ·rename_i h
     split at h3
     ·rename_i h';rw [if_neg h,if_pos h'] at h4;exact h2 ⟨h',h4⟩
     ·exact h3 rfl
theorem prW_nm (a:List UInt8):(prW a).all (nmB.contains ·)=true:=by
 unfold prW
 split
 ·decide
 ·split
  ·decide
  ·rfl
def wordP (a d:List UInt8):Nat:=if d=[] then lookW wordT (a.map smB) else if (gp false d).all (nmB.contains ·)=true then lookW wordT ((a++32::gp false d).map smB) else 0
def wordD (a d:List UInt8):Nat:=if ¬ prW (a.map smB)=[]∧(gp false d).length<d.length∧(gp false d).map smB=prW (a.map smB) then 3 else lookW loneT ((a++d).map smB)
theorem word_eq {a d:List UInt8} (ha:a.all (nmB.contains ·)=true) (hd:∀ b l,d=b::l→nmB.contains b=false):wordP a d=wordD a d:=by
 unfold wordP wordD
 have ha':(a.map smB).all (nmB.contains ·)=true:=by rw [all_sm];exact ha
 by_cases h0:d=[]
 ·subst h0
  rw [if_pos rfl,if_neg (fun h=>Nat.lt_irrefl _ h.2.1),List.append_nil,look_lone ha']
 ·rw [if_neg h0]
  obtain ⟨b,l,rfl⟩:∃ b l,d=b::l:=by
   cases d with
   | nil=>exact absurd rfl h0
   | cons b l=>exact ⟨b,l,rfl⟩
  have hb:=hd b l rfl
  have hz:lookW loneT ((a++b::l).map smB)=0:=by
   refine lone_other ?_
   rw [all_sm,List.all_append,List.all_cons,hb]
   simp
  rw [hz]
  by_cases hr:(gp false (b::l)).all (nmB.contains ·)=true
  ·rw [if_pos hr]
   have hlt:(gp false (b::l)).length<(b::l).length:=by
    by_cases h1:blB.contains b=true
    ·have e:gp false (b::l)=gp false l:=by
      conv=>lhs;unfold gp
      rw [if_pos h1]
     rw [e];have:=gp_len false l;simp;omega
    ·by_cases h2:b=92
     ·have e:gp false (b::l)=gp true l:=by
       conv=>lhs;unfold gp
       rw [if_neg h1,if_pos h2]
      rw [e];have:=gp_len true l;simp;omega
     ·exfalso
      rw [gp_stay h1 h2,List.all_cons,hb] at hr
      cases hr
   have hr':((gp false (b::l)).map smB).all (nmB.contains ·)=true:=by rw [all_sm];exact hr
   rw [List.map_append,List.map_cons,show smB 32=32 from by decide,look_pair ha' hr']
   by_cases hc:¬ prW (a.map smB)=[]∧(gp false (b::l)).map smB=prW (a.map smB)
   ·rw [if_pos hc,if_pos ⟨hc.1,hlt,hc.2⟩]
   ·rw [if_neg hc,if_neg (fun h=>hc ⟨h.1,h.2.2⟩)]
  ·rw [if_neg hr,if_neg]
   rintro ⟨-,-,h3⟩
   apply hr
   rw [← all_sm,h3]
   exact prW_nm _
def ldL (l cs:List UInt8):Nat:=(l.takeWhile (cs.contains ·)).length
theorem ldL_le (l cs:List UInt8):ldL l cs≤l.length:=(List.takeWhile_sublist _).length_le
theorem ldL_drop (l cs:List UInt8):(l.dropWhile (cs.contains ·)).length+ldL l cs=l.length:=by
 unfold ldL
 have:=congrArg List.length (List.takeWhile_append_dropWhile (p:=(cs.contains ·)) (l:=l))
 rw [List.length_append] at this
 omega
theorem ldL_pos {b:UInt8} {l cs:List UInt8} (h:cs.contains b=true):ldL (b::l) cs=ldL l cs+1:=by
 unfold ldL;rw [List.takeWhile_cons_of_pos (by exact h)];rfl
theorem ldL_neg {b:UInt8} {l cs:List UInt8} (h:¬ cs.contains b=true):ldL (b::l) cs=0:=by
 unfold ldL;rw [List.takeWhile_cons_of_neg (by exact h)];rfl
theorem take_ld (l cs:List UInt8):l.take (ldL l cs)=l.takeWhile (cs.contains ·):=by
 induction l with
 | nil=>rfl
 | cons b l ih =>
  by_cases h:cs.contains b=true
  ·rw [ldL_pos h,List.take_succ_cons,ih,List.takeWhile_cons_of_pos (by exact h)]
  ·rw [ldL_neg h,List.takeWhile_cons_of_neg (by exact h)];rfl
theorem drop_ld (l cs:List UInt8):l.drop (ldL l cs)=l.dropWhile (cs.contains ·):=by
 induction l with
 | nil=>rfl
 | cons b l ih =>
  by_cases h:cs.contains b=true
  ·rw [ldL_pos h,List.drop_succ_cons,ih,List.dropWhile_cons_of_pos (by exact h)]
  ·rw [ldL_neg h,List.dropWhile_cons_of_neg (by exact h)];rfl
theorem all_ld (l cs:List UInt8):(l.take (ldL l cs)).all (cs.contains ·)=true:=by
 rw [take_ld];exact List.all_takeWhile
theorem head_ld (l cs:List UInt8):∀ b r,l.drop (ldL l cs)=b::r→cs.contains b=false:=by
 intro b r h
 induction l with
 | nil=>cases h
 | cons c l ih =>
  by_cases hc:cs.contains c=true
  ·rw [ldL_pos hc,List.drop_succ_cons] at h;exact ih h
  ·rw [ldL_neg hc,List.drop_zero] at h
   cases h
   simpa using hc
theorem ld_full (l cs:List UInt8):ldL l cs=l.length↔l.all (cs.contains ·)=true:=by
 induction l with
 | nil=>exact ⟨fun _=>rfl,fun _=>rfl⟩
 | cons b l ih =>
  by_cases h:cs.contains b=true
  ·rw [ldL_pos h,List.all_cons,h,Bool.true_and,← ih,List.length_cons];omega
  ·rw [ldL_neg h,List.all_cons,List.length_cons]
   have:cs.contains b=false:=by simpa using h
   rw [this]
   constructor
   ·intro h;omega
   ·intro h;cases h
theorem gp_suf (m:Bool) (l:List UInt8):∃ p,l=p++gp m l:=by
 induction l generalizing m with
 | nil=>exact ⟨[],by cases m <;> rfl⟩
 | cons b l ih =>
  cases m
  ·by_cases h1:blB.contains b=true
   ·obtain ⟨p,hp⟩:=ih false
    refine ⟨b::p,?_⟩
    conv=>rhs;rw [show gp false (b::l)=gp false l from by
     conv=>lhs;unfold gp
     rw [if_pos h1]]
    rw [List.cons_append,← hp]
   ·by_cases h2:b=92
    ·obtain ⟨p,hp⟩:=ih true
     refine ⟨b::p,?_⟩
     conv=>rhs;rw [show gp false (b::l)=gp true l from by
      conv=>lhs;unfold gp
      rw [if_neg h1,if_pos h2]]
     rw [List.cons_append,← hp]
    ·exact ⟨[],by rw [gp_stay h1 h2];rfl⟩
  ·by_cases h2:b=10
   ·obtain ⟨p,hp⟩:=ih false
    refine ⟨b::p,?_⟩
    conv=>rhs;rw [show gp true (b::l)=gp false l from by
     conv=>lhs;unfold gp
     rw [if_pos h2]]
    rw [List.cons_append,← hp]
   ·obtain ⟨p,hp⟩:=ih true
    refine ⟨b::p,?_⟩
    conv=>rhs;rw [show gp true (b::l)=gp true l from by
     conv=>lhs;unfold gp
     rw [if_neg h2]]
    rw [List.cons_append,← hp]
def gpN (l:List UInt8):Nat:=l.length-(gp false l).length
theorem gpN_le (l:List UInt8):gpN l≤l.length:=by unfold gpN;omega
theorem drop_gp (l:List UInt8):l.drop (gpN l)=gp false l:=by
 obtain ⟨p,hp⟩:=gp_suf false l
 obtain ⟨g,hg⟩:∃ g,gp false l=g:=⟨_,rfl⟩
 unfold gpN
 rw [hg] at hp ⊢
 rw [hp,List.length_append,Nat.add_sub_cancel,List.drop_left]
def wordL (l:List UInt8):Nat:=wordD (l.take (ldL l nmB)) (l.drop (ldL l nmB))
theorem wordL_P (l:List UInt8):wordP (l.take (ldL l nmB)) (l.drop (ldL l nmB))=wordL l:=word_eq (all_ld l nmB) (head_ld l nmB)
def halfL (l:List UInt8):Bool:=[[115,117,98,106,101,99,116],[116,111],[115,117,99,104],[116,104,97,116]].contains (l.map smB)
def dgB:List UInt8:=[48,49,50,51,52,53,54,55,56,57]
def begL (l:List UInt8):Bool:=l.head? == some 46 || dgB.contains (l.headD 0)
def legalL (l:List UInt8):Bool:=!(l == []) && !begL l && l.all (nmB.contains ·) && wordL l == 0 && !halfL l
-- bytes of a text
theorem getD_get {s:ByteArray} {k:Nat} (h:k<s.size):((s[k]'h).toNat:Int)=((s.data.toList.getD k 0).toNat:Int):=byt_get h
theorem drop_byte {s:ByteArray} {k:Nat} (h:k<s.size):s.data.toList.drop k=s.data.toList.getD k 0::s.data.toList.drop (k+1):=by
 have hl:k<s.data.toList.length:=by simpa using h
 rw [List.drop_eq_getElem_cons hl,List.getD_eq_getElem?_getD,List.getElem?_eq_getElem hl,Option.getD_some]
theorem drop_none {s:ByteArray} {k:Nat} (h:s.size≤k):s.data.toList.drop k=[]:=List.drop_eq_nil_of_le (by simpa using h)
theorem ext_list (s:ByteArray) (a b:Nat):(s.extract a b).data.toList=(s.data.toList.take b).drop a:=by
 rw [ByteArray.data_extract,Array.toList_extract,List.extract_eq_take_drop,List.drop_take]
theorem ext_front (s:ByteArray) (b:Nat):(s.extract 0 b).data.toList=s.data.toList.take b:=by rw [ext_list];rfl
theorem ext_back (s:ByteArray) (a:Nat):(s.extract a s.size).data.toList=s.data.toList.drop a:=by
 rw [ext_list,List.take_of_length_le (by simp)]
theorem len_list (s:ByteArray):s.data.toList.length=s.size:=by simp
theorem ba_eq {a b:ByteArray} (h:a.data.toList=b.data.toList):a=b:=by
 cases a with|mk x=>cases b with|mk y=>exact congrArg ByteArray.mk (Array.toList_inj.1 h)
end Go.Proofs.YtgdilnljjgdinaaGreatDoor
