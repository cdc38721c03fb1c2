import Derived.Test.YtgdilnljjgdinaaGreatDoorLxAAll
import Derived.Test.YtgdilnljjgdinaaGreatDoorNumAll
import Derived.Test.YtgdilnljjgdinaaGreatDoorPrEAll
import Derived.Test.YtgdilnljjgdinaaGreatDoorR5IAll
import Derived.Test.YtgdilnljjgdinaaGreatDoorRatAll
import Derived.Test.YtgdilnljjgdinaaGreatDoorDigAll
namespace Go.Proofs.YtgdilnljjgdinaaGreatDoor
open Go.RowKit Go.Shelf
def lbN (l m:List UInt8):Nat:=if m.isPrefixOf l=true then ldL (l.drop m.length) dgB else 0
theorem lbN_le (l m:List UInt8):0<lbN l m→m.length+lbN l m≤l.length:=by
 unfold lbN
 split
 ·rename_i h
  intro _
  have h1:=(List.isPrefixOf_iff_prefix.1 h).length_le
  have h2:=ldL_le (l.drop m.length) dgB
  rw [List.length_drop] at h2
  omega
 ·intro h;omega
theorem lbN_le2 (l m:List UInt8):lbN l m≤l.length:=by
 rcases Nat.eq_zero_or_pos (lbN l m) with h|h
 ·omega
 ·have:=lbN_le l m h;omega
set_option maxRecDepth 100000 in
theorem behindN (s m:ByteArray) (w:World) (hs:s.size≤1000000000) :
  Calls Tryz.prog 118 #[.string s,.string m] w fun e w'=>e = .returned (.int .i64 (lbN s.data.toList m.data.toList:Nat))∧Below w.heap.size w w':=by
 have HC:=fun u=>cutPQ s m u
 unfold lbN
 cases hb:m.data.toList.isPrefixOf s.data.toList with
 | true =>
  rw [if_pos rfl]
  simp only [hb,if_true] at HC
  have hl:m.size≤s.size:=by
   have:=(List.isPrefixOf_iff_prefix.1 hb).length_le
   rwa [len_list,len_list] at this
  have HL:=fun u=>leadG (s.extract m.size s.size) u (by rw [size_extract _ _ _ (Nat.le_refl _)];omega)
  rw [ext_back] at HL
  rw [len_list]
  generalize s.extract m.size s.size=x at *
  generalize ldL (s.data.toList.drop m.size) dgB=n at *
  clear hb
  go_enter Tryz.func118,Tryz.ntmps118
  go_wp2_with fail
  refine (HC _).mono ?_
  rintro e w1 ⟨rfl,rfl⟩
  go_wp2_with fail
  refine (HL _).mono ?_
  rintro e w2 ⟨rfl,hb⟩
  go_wp2
  go_ret
  exact ⟨rfl,hb⟩
 | false =>
  rw [if_neg (by decide)]
  simp only [hb,Bool.false_eq_true,if_false] at HC
  clear hb
  go_enter Tryz.func118,Tryz.ntmps118
  go_wp2_with fail
  refine (HC _).mono ?_
  rintro e w1 ⟨rfl,rfl⟩
  go_wp2
  go_ret
  exact ⟨rfl,Below.refl _ _⟩
def exMs:List (List UInt8):=[[101],[69],[101,43],[69,43],[101,45],[69,45]]
def exG (T:List (List UInt8)) (l:List UInt8):Nat :=
 match T with
 | []=>0
 | m::T=>if 0<lbN l m then m.length+lbN l m else exG T l
def exN (l:List UInt8):Nat:=exG exMs l
theorem exG_le (T:List (List UInt8)) (l:List UInt8):exG T l≤l.length:=by
 induction T with
 | nil=>exact Nat.zero_le _
 | cons m T ih =>
  unfold exG
  split
  ·rename_i h;exact lbN_le l m h
  ·exact ih
theorem exN_le (l:List UInt8):exN l≤l.length:=exG_le _ _
def exA:Array Value:=#[.string ⟨#[101]⟩,.string ⟨#[69]⟩,.string ⟨#[101,43]⟩,.string ⟨#[69,43]⟩,.string ⟨#[101,45]⟩,.string ⟨#[69,45]⟩]
def exX (i:Nat):ByteArray:=⟨(exMs.getD i []).toArray⟩
theorem ixX:∀ (i:Nat),i<6→∀ (w:World),(Instr.index 190 (.agg exA) (.int .i64 (i:Nat))).run Tryz.prog w = .ok (.string (exX i)) w
 | 0,_,_=>by kernel_rfl
 | 1,_,_=>by kernel_rfl
 | 2,_,_=>by kernel_rfl
 | 3,_,_=>by kernel_rfl
 | 4,_,_=>by kernel_rfl
 | 5,_,_=>by kernel_rfl
 | n+6,h,_=>absurd h (by omega)
theorem exG_at {l:List UInt8}:∀ {T:List (List UInt8)} (i:Nat),(∀ j,j<i→¬ 0<lbN l (T.getD j []))→i<T.length→0<lbN l (T.getD i [])→exG T l=(T.getD i []).length+lbN l (T.getD i [])
 | [],i,_,h,_=>absurd h (Nat.not_lt_zero _)
 | m::T,0,_,_,h=>by unfold exG;rw [if_pos (show 0<lbN l m from h)];rfl
 | m::T,i+1,hno,hi,h=>by
  unfold exG
  rw [if_neg (show ¬ 0<lbN l m from hno 0 (by omega))]
  exact exG_at i (fun j hj=>by simpa using hno (j+1) (by omega)) (by simpa using hi) (by simpa using h)
theorem exG_no {l:List UInt8}:∀ {T:List (List UInt8)},(∀ j,j<T.length→¬ 0<lbN l (T.getD j []))→exG T l=0
 | [],_=>rfl
 | m::T,h=>by
  unfold exG
  rw [if_neg (show ¬ 0<lbN l m from h 0 (by simp))]
  exact exG_no fun j hj=>by simpa using h (j+1) (by simpa using hj)
set_option maxRecDepth 100000 in
set_option maxHeartbeats 4000000 in
theorem expoN (s:ByteArray) (w:World) (hs:s.size≤100000000) :
  Calls Tryz.prog 119 #[.string s] w fun e w'=>e = .returned (.int .i64 (exN s.data.toList:Nat))∧Below w.heap.size w w':=by
 have HB:∀ i,i<6→∀ u,Calls Tryz.prog 118 #[.string s,.string (exX i)] u fun e w'=>e = .returned (.int .i64 (lbN s.data.toList (exMs.getD i []):Nat))∧Below u.heap.size u w':=fun i _ u=>behindN s (exX i) u (by omega)
 have HM:Hid (∀ i,(∀ j,j<i→¬ 0<lbN s.data.toList (exMs.getD j []))→i<6→0<lbN s.data.toList (exMs.getD i [])→exN s.data.toList=(exMs.getD i []).length+lbN s.data.toList (exMs.getD i [])):=fun i h1 h2 h3=>exG_at i h1 h2 h3
 have HO:Hid ((∀ j,j<6→¬ 0<lbN s.data.toList (exMs.getD j []))→exN s.data.toList=0):=fun h=>exG_no h
 have hll:∀ m,lbN s.data.toList m≤s.size:=fun m=>by have:=lbN_le2 s.data.toList m;rwa [len_list] at this
 have hix:=ixX
 generalize exN s.data.toList=R at *
 generalize s.data.toList=l at *
 go_enter Tryz.func119,Tryz.ntmps119
 go_wp2
 rw [show (#[.string ⟨#[101]⟩,.string ⟨#[69]⟩,.string ⟨#[101,43]⟩,.string ⟨#[69,43]⟩,.string ⟨#[101,45]⟩,.string ⟨#[69,45]⟩]:Array Value)=exA from rfl]
 go_loopw [7] (fun v wr=>∃ i:Nat,i≤6∧v = .int .i64 i∧Hid (∀ j,j<i→¬ 0<lbN l (exMs.getD j []))∧Below w.heap.size w wr) (fun v _=>6-(intOf v).toNat)
 case atStart=>exact ⟨0,by omega,rfl,fun j hj=>absurd hj (Nat.not_lt_zero _),Below.refl _ _⟩
 case round =>
  obtain ⟨i,hi,rfl,HN,hb⟩:=hrel
  have hsz:=hb.size
  by_cases hlt:i<6
  ·have hil:(i:Int)<6:=by omega
   have hx:=hix i hlt
   have HBi:=HB i hlt
   have hlm:=hll (exMs.getD i [])
   have hxs:(exX i).size=(exMs.getD i []).length:=by rw [← len_list];rfl
   have hxl:(exX i).size≤2:=by
    have:∀ i,i<6→(exX i).size≤2:=by decide
    exact this i hlt
   have hw1:IntKind.i64.wrap ((i:Int)+1)=(i:Int)+1:=by rw [IntKind.wrap_i64];omega
   clear HB hix hll
   by_cases he:0<lbN l (exMs.getD i [])
   ·have hR:=HM.out i HN.out hlt he
    rw [← hxs] at hR
    generalize lbN l (exMs.getD i [])=n at *
    subst hR
    have hnI:(0:Int)<(n:Int):=by omega
    have hw2:IntKind.i64.wrap (((exX i).size:Int)+(n:Int))=((exX i).size:Int)+(n:Int):=by rw [IntKind.wrap_i64];omega
    clear HM HO HN hxs
    go_wp2_with fail
    refine (HBi _).mono ?_
    rintro e w2 ⟨rfl,hb2⟩
    replace hb:=bel_tr hb hb2
    go_wp2
    go_ret
    exact ⟨by simp,hb⟩
   ·have HN2:Hid (∀ j,j<i+1→¬ 0<lbN l (exMs.getD j [])):=fun j hj=>by
     rcases (by omega:j<i∨j=i) with h|rfl
     ·exact HN.out j h
     ·exact he
    rw [show lbN l (exMs.getD i [])=0 by omega] at HBi
    clear HM HO HN he hxs
    go_wp2_with fail
    refine (HBi _).mono ?_
    rintro e w2 ⟨rfl,hb2⟩
    replace hb:=bel_tr hb hb2
    go_wp2
    go_roundw
    case rel=>exact ⟨i+1,by omega,by go_num,HN2,hb⟩
    case measure=>simp [intOf];omega
  ·have hil:¬ (i:Int)<6:=by omega
   obtain rfl:i=6:=by omega
   have hR:=HO.out HN.out
   subst hR
   clear HM HO HN HB hix hll
   go_wp2
   go_ret
   exact ⟨rfl,hb⟩
end Go.Proofs.YtgdilnljjgdinaaGreatDoor
namespace Go.Proofs.YtgdilnljjgdinaaGreatDoor
open Go.RowKit Go.Shelf
def litN (l:List UInt8):Nat :=
 if 0<lbN (l.drop (ldL l dgB)) [47] then ldL l dgB+1+lbN (l.drop (ldL l dgB)) [47]
 else if ([46]:List UInt8).isPrefixOf (l.drop (ldL l dgB))=true then
  (if ldL l dgB+lbN (l.drop (ldL l dgB)) [46]=0 then 0 else ldL l dgB+(1+lbN (l.drop (ldL l dgB)) [46])+exN (l.drop (ldL l dgB+(1+lbN (l.drop (ldL l dgB)) [46]))))
 else ldL l dgB+exN (l.drop (ldL l dgB))
theorem pfx_one {c:UInt8} {l:List UInt8} (h:([c]:List UInt8).isPrefixOf l=true):1≤l.length∧1+lbN l [c]≤l.length:=by
 have h1:=(List.isPrefixOf_iff_prefix.1 h).length_le
 simp only [List.length_cons,List.length_nil] at h1
 refine ⟨h1,?_⟩
 unfold lbN
 rw [if_pos h]
 have:=ldL_le (l.drop [c].length) dgB
 rw [List.length_drop,show [c].length=1 from rfl] at this
 rw [show [c].length=1 from rfl]
 omega
set_option maxRecDepth 100000 in
set_option maxHeartbeats 4000000 in
theorem literalN (s:ByteArray) (w:World) (hs:s.size≤100000000) :
  Calls Tryz.prog 100 #[.string s] w fun e w'=>e = .returned (.int .i64 (litN s.data.toList:Nat))∧Below w.heap.size w w':=by
 have HL:=fun u=>leadG s u (by omega)
 have hal:=ldL_le s.data.toList dgB
 rw [len_list] at hal
 unfold litN
 generalize ldL s.data.toList dgB=a at *
 have ha0:(0:Int)≤(a:Int):=by omega
 have haI:(a:Int)≤(s.size:Int):=by omega
 obtain ⟨r,hr⟩:∃ r,s.extract a s.size=r:=⟨_,rfl⟩
 have hrl:s.data.toList.drop a=r.data.toList:=by rw [← hr,ext_back]
 have hrs:r.size=s.size-a:=by rw [← hr,size_extract _ _ _ (Nat.le_refl _)]
 rw [hrl]
 have H47:∀ u,Calls Tryz.prog 118 #[.string r,.string ⟨#[47]⟩] u fun e w'=>e = .returned (.int .i64 (lbN r.data.toList [47]:Nat))∧Below u.heap.size u w':=fun u=>behindN r ⟨#[47]⟩ u (by omega)
 have hb47:=lbN_le r.data.toList [47]
 have hc47:=lbN_le2 r.data.toList [47]
 rw [len_list] at hb47 hc47
 generalize hB:lbN r.data.toList [47]=b at *
 clear hB
 by_cases h47:0<b
 ·rw [if_pos h47]
  have hbI:(0:Int)<(b:Int):=by omega
  have hq:=hb47 h47
  simp only [List.length_cons,List.length_nil] at hq
  have hw1:IntKind.i64.wrap ((a:Int)+1)=(a:Int)+1:=by rw [IntKind.wrap_i64];omega
  have hw2:IntKind.i64.wrap ((a:Int)+1+(b:Int))=(a:Int)+1+(b:Int):=by rw [IntKind.wrap_i64];omega
  clear hrl hb47 hc47 hq
  go_enter Tryz.func100,Tryz.ntmps100
  go_wp2_with fail
  refine (HL _).mono ?_
  rintro e w1 ⟨rfl,hb⟩
  go_wp2_with fail
  refine (H47 _).mono ?_
  rintro e w2 ⟨rfl,hb2⟩
  replace hb:=bel_tr hb hb2
  go_wp2
  go_ret
  exact ⟨by simp,hb⟩
 ·rw [if_neg h47]
  have hb0:b=0:=by omega
  subst hb0
  clear h47 hb47 hc47
  have HP:∀ u,Calls Tryz.prog 51 #[.string r,.string ⟨#[46]⟩] u fun e w'=>e = .returned (.bool (([46]:List UInt8).isPrefixOf r.data.toList))∧w'=u:=fun u=>pfxQ r ⟨#[46]⟩ u
  have H46:∀ u,Calls Tryz.prog 118 #[.string r,.string ⟨#[46]⟩] u fun e w'=>e = .returned (.int .i64 (lbN r.data.toList [46]:Nat))∧Below u.heap.size u w':=fun u=>behindN r ⟨#[46]⟩ u (by omega)
  cases hp:([46]:List UInt8).isPrefixOf r.data.toList with
  | true =>
   rw [hp] at HP
   rw [if_pos rfl]
   have hq:=(pfx_one hp).2
   rw [len_list] at hq
   generalize lbN r.data.toList [46]=c at *
   clear hp hrl
   have hw0:IntKind.i64.wrap ((a:Int)+(c:Int))=(a:Int)+(c:Int):=by rw [IntKind.wrap_i64];omega
   by_cases hz:a+c=0
   ·rw [if_pos hz]
    have hzI:(a:Int)+(c:Int)=0:=by omega
    clear hz
    go_enter Tryz.func100,Tryz.ntmps100
    go_wp2_with fail
    refine (HL _).mono ?_
    rintro e w1 ⟨rfl,hb⟩
    go_wp2_with fail
    refine (H47 _).mono ?_
    rintro e w2 ⟨rfl,hb2⟩
    replace hb:=bel_tr hb hb2
    go_wp2_with fail
    refine (HP _).mono ?_
    rintro e w3 ⟨rfl,rfl⟩
    go_wp2_with fail
    refine (H46 _).mono ?_
    rintro e w4 ⟨rfl,hb3⟩
    replace hb:=bel_tr hb hb3
    go_wp2
    go_ret
    exact ⟨rfl,hb⟩
   ·rw [if_neg hz]
    have hzI:((a:Int)+(c:Int) == 0)=false:=beq_eq_false_iff_ne.2 (by omega)
    obtain ⟨x,hx⟩:∃ x,s.extract (a+(1+c)) s.size=x:=⟨_,rfl⟩
    have hxl:s.data.toList.drop (a+(1+c))=x.data.toList:=by rw [← hx,ext_back]
    have hxs:x.size≤s.size-(a+(1+c)):=by rw [← hx,size_extract _ _ _ (Nat.le_refl _)];omega
    have HE:=fun u=>expoN x u (by omega)
    have hel:=exN_le x.data.toList
    rw [len_list] at hel
    rw [hxl]
    generalize exN x.data.toList=ex at *
    have hw1:IntKind.i64.wrap (1+(c:Int))=1+(c:Int):=by rw [IntKind.wrap_i64];omega
    have hw2:IntKind.i64.wrap ((a:Int)+(1+(c:Int)))=(a:Int)+(1+(c:Int)):=by rw [IntKind.wrap_i64];omega
    have hw3:IntKind.i64.wrap ((a:Int)+(1+(c:Int))+(ex:Int))=(a:Int)+(1+(c:Int))+(ex:Int):=by rw [IntKind.wrap_i64];omega
    have h1:(a:Int)+(1+(c:Int))≤(s.size:Int):=by omega
    have h2:(0:Int)≤(a:Int)+(1+(c:Int)):=by omega
    have h3:((a:Int)+(1+(c:Int))).toNat=a+(1+c):=by omega
    clear hz hxl hel hxs hq
    go_enter Tryz.func100,Tryz.ntmps100
    go_wp2_with fail
    refine (HL _).mono ?_
    rintro e w1 ⟨rfl,hb⟩
    go_wp2_with fail
    refine (H47 _).mono ?_
    rintro e w2 ⟨rfl,hb2⟩
    replace hb:=bel_tr hb hb2
    go_wp2_with fail
    refine (HP _).mono ?_
    rintro e w3 ⟨rfl,rfl⟩
    go_wp2_with fail
    refine (H46 _).mono ?_
    rintro e w4 ⟨rfl,hb3⟩
    replace hb:=bel_tr hb hb3
    go_wp2_with fail
    refine (HE _).mono ?_
    rintro e w5 ⟨rfl,hb4⟩
    replace hb:=bel_tr hb hb4
    go_wp2
    go_ret
    exact ⟨by simp,hb⟩
  | false =>
   rw [hp] at HP
   rw [if_neg (by decide)]
   have HE:=fun u=>expoN r u (by omega)
   have hel:=exN_le r.data.toList
   rw [len_list] at hel
   generalize exN r.data.toList=ex at *
   have hw1:IntKind.i64.wrap ((a:Int)+(ex:Int))=(a:Int)+(ex:Int):=by rw [IntKind.wrap_i64];omega
   clear hp hrl hel H46
   go_enter Tryz.func100,Tryz.ntmps100
   go_wp2_with fail
   refine (HL _).mono ?_
   rintro e w1 ⟨rfl,hb⟩
   go_wp2_with fail
   refine (H47 _).mono ?_
   rintro e w2 ⟨rfl,hb2⟩
   replace hb:=bel_tr hb hb2
   go_wp2_with fail
   refine (HP _).mono ?_
   rintro e w3 ⟨rfl,rfl⟩
   go_wp2_with fail
   refine (HE _).mono ?_
   rintro e w5 ⟨rfl,hb4⟩
   replace hb:=bel_tr hb hb4
   go_wp2
   go_ret
   exact ⟨by simp,hb⟩
def pairN (l:List UInt8):Nat:=ldL l nmB+gpN (l.drop (ldL l nmB))+ldL (l.drop (ldL l nmB+gpN (l.drop (ldL l nmB)))) nmB
theorem pairN_le (l:List UInt8):pairN l≤l.length:=by
 unfold pairN
 have h1:=ldL_le l nmB
 generalize ldL l nmB=n at *
 have h2:=gpN_le (l.drop n)
 rw [List.length_drop] at h2
 generalize gpN (l.drop n)=g at *
 have h3:=ldL_le (l.drop (n+g)) nmB
 rw [List.length_drop] at h3
 omega
set_option maxRecDepth 100000 in
set_option maxHeartbeats 4000000 in
theorem pairQ (s:ByteArray) (w:World) (hs:s.size≤100000000) :
  Calls Tryz.prog 102 #[.string s] w fun e w'=>e = .returned (.int .i64 (pairN s.data.toList:Nat))∧Below w.heap.size w w':=by
 have HL:=fun u=>leadN s u (by omega)
 have hal:=ldL_le s.data.toList nmB
 rw [len_list] at hal
 unfold pairN
 generalize ldL s.data.toList nmB=n at *
 have ha0:(0:Int)≤(n:Int):=by omega
 have haI:(n:Int)≤(s.size:Int):=by omega
 obtain ⟨r,hr⟩:∃ r,s.extract n s.size=r:=⟨_,rfl⟩
 have hrl:s.data.toList.drop n=r.data.toList:=by rw [← hr,ext_back]
 have hrs:r.size=s.size-n:=by rw [← hr,size_extract _ _ _ (Nat.le_refl _)]
 rw [hrl]
 have HG:=fun u=>gapQ r u (by omega)
 have hgl:=gpN_le r.data.toList
 rw [len_list] at hgl
 generalize gpN r.data.toList=g at *
 obtain ⟨x,hx⟩:∃ x,s.extract (n+g) s.size=x:=⟨_,rfl⟩
 have hxl:s.data.toList.drop (n+g)=x.data.toList:=by rw [← hx,ext_back]
 have hxs:x.size=s.size-(n+g):=by rw [← hx,size_extract _ _ _ (Nat.le_refl _)]
 rw [hxl]
 have HX:=fun u=>leadN x u (by omega)
 have hll:=ldL_le x.data.toList nmB
 rw [len_list] at hll
 generalize ldL x.data.toList nmB=m at *
 have hw1:IntKind.i64.wrap ((n:Int)+(g:Int))=(n:Int)+(g:Int):=by rw [IntKind.wrap_i64];omega
 have hw2:IntKind.i64.wrap ((n:Int)+(g:Int)+(m:Int))=(n:Int)+(g:Int)+(m:Int):=by rw [IntKind.wrap_i64];omega
 have h1:(n:Int)+(g:Int)≤(s.size:Int):=by omega
 have h2:(0:Int)≤(n:Int)+(g:Int):=by omega
 have h3:((n:Int)+(g:Int)).toNat=n+g:=by omega
 clear hrl hxl hll hgl
 go_enter Tryz.func102,Tryz.ntmps102
 go_wp2_with fail
 refine (HL _).mono ?_
 rintro e w1 ⟨rfl,hb⟩
 go_wp2_with fail
 refine (HG _).mono ?_
 rintro e w2 ⟨rfl,hb2⟩
 replace hb:=bel_tr hb hb2
 go_wp2_with fail
 refine (HX _).mono ?_
 rintro e w3 ⟨rfl,hb3⟩
 replace hb:=bel_tr hb hb3
 go_wp2
 go_ret
 exact ⟨by simp,hb⟩
def colL (l:List UInt8):Bool:=([58]:List UInt8).isPrefixOf (gp false l)
theorem colonQ (s:ByteArray) (w:World) (hs:s.size≤100000000) :
  Calls Tryz.prog 103 #[.string s] w fun e w'=>e = .returned (.bool (colL s.data.toList))∧Below w.heap.size w w':=by
 have HG:=fun u=>gapQ s u (by omega)
 have hgl:=gpN_le s.data.toList
 rw [len_list] at hgl
 unfold colL
 rw [← drop_gp]
 generalize gpN s.data.toList=n at *
 have ha0:(0:Int)≤(n:Int):=by omega
 have haI:(n:Int)≤(s.size:Int):=by omega
 obtain ⟨r,hr⟩:∃ r,s.extract n s.size=r:=⟨_,rfl⟩
 have hrl:s.data.toList.drop n=r.data.toList:=by rw [← hr,ext_back]
 rw [hrl]
 have HP:∀ u,Calls Tryz.prog 51 #[.string r,.string ⟨#[58]⟩] u fun e w'=>e = .returned (.bool (([58]:List UInt8).isPrefixOf r.data.toList))∧w'=u:=fun u=>pfxQ r ⟨#[58]⟩ u
 generalize ([58]:List UInt8).isPrefixOf r.data.toList=b at *
 clear hrl
 go_enter Tryz.func103,Tryz.ntmps103
 go_wp2_with fail
 refine (HG _).mono ?_
 rintro e w1 ⟨rfl,hb⟩
 go_wp2_with fail
 refine (HP _).mono ?_
 rintro e w2 ⟨rfl,rfl⟩
 go_wp2
 go_ret
 exact ⟨rfl,hb⟩
end Go.Proofs.YtgdilnljjgdinaaGreatDoor
namespace Go.Proofs.YtgdilnljjgdinaaGreatDoor
open Go.RowKit Go.Shelf
def tkC (k:Int) (x:ByteArray) (u1 u2 u3:Value) (wd l c:Int):Array Value:=#[.int .i64 k,.string x,u1,u2,u3,.int .i64 wd,.int .i64 l,.int .i64 c]
theorem tkI:(Tryz.prog.info? 46).map (·.size)=some 8:=by kernel_rfl
theorem tkC_one (k:Int) (x:ByteArray) {u1 u2 u3:Value} (wd l c:Int) (h1:u1.oneCell'=true) (h2:u2.oneCell'=true) (h3:u3.oneCell'=true):(tkC k x u1 u2 u3 wd l c).all (·.oneCell')=true:=by
 rw [Array.all_eq_true_iff_forall_mem]
 intro v hv
 simp only [tkC,List.mem_toArray,List.mem_cons,List.not_mem_nil,or_false] at hv
 rcases hv with rfl|rfl|rfl|rfl|rfl|rfl|rfl|rfl <;> first|rfl|assumption
-- signs
def sgT:List (List UInt8 × Nat):=[([60,61],6),([61,60],6),([62,61],7),([61,62],7),([60],6),([62],7),([61],8),([43],3),([45],4),([58],5)]
def sgX (i:Nat):ByteArray:=⟨(sgT.getD i ([],0)).1.toArray⟩
def sgK (i:Nat):Nat:=(sgT.getD i ([],0)).2
def sgA:Array Value:=(sgT.flatMap fun e=>[Value.string ⟨e.1.toArray⟩,Value.int .i64 (e.2:Nat)]).toArray
def Sgs (w:World):Prop:=∃ t fr,w.heap[3]? = some (.cells sgA t fr)
theorem Sgs.below {w w':World} (h:Sgs w) (hb:Below w.heap.size w w'):Sgs w':=by
 obtain ⟨t,fr,h⟩:=h
 exact ⟨t,fr,(hb.block _ (Array.getElem?_eq_some_iff.1 h).1).trans h⟩
theorem ixS:∀ (i:Nat),i<10→∀ (w:World),(Instr.index 152 (.agg sgA) (.int .i64 (i:Nat))).run Tryz.prog w = .ok (.agg #[.string (sgX i),.int .i64 (sgK i:Nat)]) w
 | 0,_,_=>by kernel_rfl
 | 1,_,_=>by kernel_rfl
 | 2,_,_=>by kernel_rfl
 | 3,_,_=>by kernel_rfl
 | 4,_,_=>by kernel_rfl
 | 5,_,_=>by kernel_rfl
 | 6,_,_=>by kernel_rfl
 | 7,_,_=>by kernel_rfl
 | 8,_,_=>by kernel_rfl
 | 9,_,_=>by kernel_rfl
 | n+10,h,_=>absurd h (by omega)
theorem Sgs.step {w:World} (h:Sgs w) {ops:Array Oper} {rest:List Oper} {o:Oper} {a:Act} {Q:Exit→Act→World→Prop} (hgd:o.guard=none) (x:Operand) (ho:o.op = .load 152 x) (hx:a.eval x = .pointer (some ⟨3,0,none⟩))
  (hK:wpList Tryz.prog ops Q rest (a.put o.dst (.agg sgA)) w):wpList Tryz.prog ops Q (o::rest) a w:=by
 obtain ⟨t,fr,h⟩:=h
 exact wpList_load_row hgd _ x ho _ hx t sgA fr _ h Tryz.underlying152 rfl (by kernel_rfl) hK
set_option maxRecDepth 100000 in
set_option maxHeartbeats 4000000 in
theorem signQ (s:ByteArray) (w:World) (n:Nat) (hn:n<10) (hyes:(sgX n).data.toList.isPrefixOf s.data.toList=true) (hno:∀ j,j<n→(sgX j).data.toList.isPrefixOf s.data.toList=false) (hG:Sgs w) :
  Calls Tryz.prog 71 #[.string s] w fun e w'=>e = .returned (.tuple #[.agg (tkC (sgK n:Nat) (sgX n) (.bool false) (.slice none 0 0) (.slice none 0 0) 0 0 0),.nilIface])∧Below w.heap.size w w':=by
 have HP:∀ i u,Calls Tryz.prog 51 #[.string s,.string (sgX i)] u fun e w'=>e = .returned (.bool ((sgX i).data.toList.isPrefixOf s.data.toList))∧w'=u:=fun i u=>pfxQ s (sgX i) u
 have HY:∀ u,Calls Tryz.prog 51 #[.string s,.string (sgX n)] u fun e w'=>e = .returned (.bool true)∧w'=u:=fun u=>by have:=HP n u;rwa [hyes] at this
 have HNo:∀ i,i<n→∀ u,Calls Tryz.prog 51 #[.string s,.string (sgX i)] u fun e w'=>e = .returned (.bool false)∧w'=u:=fun i hi u=>by have:=HP i u;rwa [hno i hi] at this
 clear HP hyes hno
 have hix:=ixS
 have R0:=Rw.new 46 w #[.int .i64 0,.string ⟨#[]⟩,.bool false,.slice none 0 0,.slice none 0 0,.int .i64 0,.int .i64 0,.int .i64 0]
 have hb0:Below w.heap.size w (w.alloc (.cells #[.int .i64 0,.string ⟨#[]⟩,.bool false,.slice none 0 0,.slice none 0 0,.int .i64 0,.int .i64 0,.int .i64 0] 46)):=(Below.refl _ _).alloc (Nat.le_refl _) _
 replace hG:=hG.below hb0
 have hsz:w.heap.size+1≤(w.alloc (.cells #[.int .i64 0,.string ⟨#[]⟩,.bool false,.slice none 0 0,.slice none 0 0,.int .i64 0,.int .i64 0,.int .i64 0] 46)).heap.size:=by simp
 go_enter Tryz.func71,Tryz.ntmps71
 go_wp2_with (refine hG.step rfl _ rfl rfl ?_)
 generalize w.alloc (.cells #[.int .i64 0,.string ⟨#[]⟩,.bool false,.slice none 0 0,.slice none 0 0,.int .i64 0,.int .i64 0,.int .i64 0] 46)=W0 at *
 go_loopw [7] (fun v wr=>∃ i:Nat,i≤n∧v = .int .i64 i∧Rw 46 wr w.heap.size #[.int .i64 0,.string ⟨#[]⟩,.bool false,.slice none 0 0,.slice none 0 0,.int .i64 0,.int .i64 0,.int .i64 0]∧w.heap.size+1≤wr.heap.size∧Below w.heap.size w wr) (fun v _=>10-(intOf v).toNat)
 case atStart=>exact ⟨0,by omega,rfl,R0,hsz,hb0⟩
 case round =>
  clear R0 hb0 hsz hG
  obtain ⟨i,hi,rfl,R0,hsz,hb⟩:=hrel
  have hil:(i:Int)<10:=by omega
  have hw1:IntKind.i64.wrap ((i:Int)+1)=(i:Int)+1:=by rw [IntKind.wrap_i64];omega
  have hx:=hix i (by omega)
  by_cases he:i=n
  ·subst he
   clear hix HNo
   go_wp2_with fail
   refine (HY _).mono ?_
   rintro e w2 ⟨rfl,rfl⟩
   have R1:=R0.alloc (.cells #[.string (sgX i),.int .i64 (sgK i:Nat)] 151)
   have hb1:=hb.alloc (by omega) (.cells #[.string (sgX i),.int .i64 (sgK i:Nat)] 151)
   go_wp2_with (refine R1.put (tkC (sgK i:Nat) (sgX i) (.bool false) (.slice none 0 0) (.slice none 0 0) 0 0 0) rfl _ _ rfl rfl rfl tkI rfl (tkC_one _ _ _ _ _ rfl rfl rfl) ?_)
   intro w3 R2 O
   have hb2:=hb1.trans (O.below (B:=w.heap.size) (Nat.le_refl _))
   go_wp2
   exact bodyPost_ret (R2.ret2 Tryz.results71 _ rfl Tryz.underlying46 tkI) rfl ⟨rfl,hb2⟩
  ·have HNi:=HNo i (by omega)
   clear hix HNo HY
   go_wp2_with fail
   refine (HNi _).mono ?_
   rintro e w2 ⟨rfl,rfl⟩
   have R1:=R0.alloc (.cells #[.string (sgX i),.int .i64 (sgK i:Nat)] 151)
   have hb1:=hb.alloc (by omega) (.cells #[.string (sgX i),.int .i64 (sgK i:Nat)] 151)
   go_wp2
   go_roundw
   case rel=>exact ⟨i+1,by omega,by go_num,R1,by simp;omega,hb1⟩
   case measure=>simp [intOf];omega
end Go.Proofs.YtgdilnljjgdinaaGreatDoor
namespace Go.Proofs.YtgdilnljjgdinaaGreatDoor
open Go.RowKit Go.Shelf
def nmN (l:List UInt8):Nat × Nat × Nat :=
 if ¬ wordL (l.take (ldL l nmB))=0∧colL (l.drop (ldL l nmB))=false then (9,wordL (l.take (ldL l nmB)),ldL l nmB)
 else if ¬ wordL (l.take (pairN l))=0∧colL (l.drop (pairN l))=false then (9,wordL (l.take (pairN l)),pairN l)
 else (1,0,ldL l nmB)
theorem ix2 (x y:ByteArray) (w:World):(Instr.index 150 (.agg #[.string x,.string y]) (.int .i64 0)).run Tryz.prog w = .ok (.string x) w∧(Instr.index 150 (.agg #[.string x,.string y]) (.int .i64 1)).run Tryz.prog w = .ok (.string y) w:=⟨by kernel_rfl,by kernel_rfl⟩
set_option maxRecDepth 100000 in
set_option maxHeartbeats 8000000 in
theorem nameQ (s:ByteArray) (w:World) (hs:s.size≤100000000) (hW:Wds w) (K WD N:Nat) (hK:nmN s.data.toList=(K,WD,N)) :
  Calls Tryz.prog 70 #[.string s] w fun e w'=>e = .returned (.agg (tkC (K:Nat) (s.extract 0 N) (.bool false) (.slice none 0 0) (.slice none 0 0) (WD:Nat) 0 0))∧Below w.heap.size w w':=by
 have HL:=fun u=>leadN s u (by omega)
 have HP:=fun u=>pairQ s u hs
 have hl1:=ldL_le s.data.toList nmB
 have hl2:=pairN_le s.data.toList
 rw [len_list] at hl1 hl2
 unfold nmN at hK
 generalize ldL s.data.toList nmB=n at *
 generalize pairN s.data.toList=m at *
 obtain ⟨x,hx⟩:∃ x,s.extract 0 n=x:=⟨_,rfl⟩
 obtain ⟨y,hy⟩:∃ y,s.extract 0 m=y:=⟨_,rfl⟩
 have hxl:s.data.toList.take n=x.data.toList:=by rw [← hx,ext_front]
 have hyl:s.data.toList.take m=y.data.toList:=by rw [← hy,ext_front]
 have hxs:x.size=n:=by rw [← hx,size_extract _ _ _ (by omega)];omega
 have hys:y.size=m:=by rw [← hy,size_extract _ _ _ (by omega)];omega
 obtain ⟨x',hx'⟩:∃ x',s.extract n s.size=x':=⟨_,rfl⟩
 obtain ⟨y',hy'⟩:∃ y',s.extract m s.size=y':=⟨_,rfl⟩
 have hxl':s.data.toList.drop n=x'.data.toList:=by rw [← hx',ext_back]
 have hyl':s.data.toList.drop m=y'.data.toList:=by rw [← hy',ext_back]
 have hxs':x'.size≤s.size:=by rw [← hx',size_extract _ _ _ (Nat.le_refl _)];omega
 have hys':y'.size≤s.size:=by rw [← hy',size_extract _ _ _ (Nat.le_refl _)];omega
 have W1c:=fun (u:World) (hu:Wds u)=>WordQ x u (by omega) hu
 have W2c:=fun (u:World) (hu:Wds u)=>WordQ y u (by omega) hu
 have C1c:=fun u=>colonQ x' u (by omega)
 have C2c:=fun u=>colonQ y' u (by omega)
 rw [hxl,hyl,hxl',hyl'] at hK
 generalize wordL x.data.toList=W1 at *
 generalize wordL y.data.toList=W2 at *
 generalize colL x'.data.toList=C1 at *
 generalize colL y'.data.toList=C2 at *
 clear hxl hyl hxl' hyl' hxs' hys'
 have HR1:Hid (¬ W1=0∧C1=false→K=9∧WD=W1∧N=n):=fun h=>by
  rw [if_pos h] at hK;simp only [Prod.mk.injEq] at hK;omega
 have HR2:Hid ((W1=0∨C1=true)∧¬ W2=0∧C2=false→K=9∧WD=W2∧N=m):=fun ⟨h1,h2⟩=>by
  rw [if_neg (by rintro ⟨a,b⟩;rcases h1 with h|h;exact a h;rw [h] at b;cases b),if_pos h2] at hK;simp only [Prod.mk.injEq] at hK;omega
 have HR3:Hid ((W1=0∨C1=true)∧(W2=0∨C2=true)→K=1∧WD=0∧N=n):=fun ⟨h1,h2⟩=>by
  rw [if_neg (by rintro ⟨a,b⟩;rcases h1 with h|h;exact a h;rw [h] at b;cases b),if_neg (by rintro ⟨a,b⟩;rcases h2 with h|h;exact a h;rw [h] at b;cases b)] at hK;simp only [Prod.mk.injEq] at hK;omega
 clear hK
 have hx2:=fun u=>(ix2 x y u).1
 have hx3:=fun u=>(ix2 x y u).2
 have n0:(0:Int)≤(n:Int):=by omega
 have nI:(n:Int)≤(s.size:Int):=by omega
 have m0:(0:Int)≤(m:Int):=by omega
 have mI:(m:Int)≤(s.size:Int):=by omega
 have R0:=Rw.new 46 w #[.int .i64 0,.string ⟨#[]⟩,.bool false,.slice none 0 0,.slice none 0 0,.int .i64 0,.int .i64 0,.int .i64 0]
 have hb:Below w.heap.size w (w.alloc (.cells #[.int .i64 0,.string ⟨#[]⟩,.bool false,.slice none 0 0,.slice none 0 0,.int .i64 0,.int .i64 0,.int .i64 0] 46)):=(Below.refl _ _).alloc (Nat.le_refl _) _
 replace hW:=hW.below hb
 have hsz:w.heap.size+1≤(w.alloc (.cells #[.int .i64 0,.string ⟨#[]⟩,.bool false,.slice none 0 0,.slice none 0 0,.int .i64 0,.int .i64 0,.int .i64 0] 46)).heap.size:=by simp
 clear hl1 hl2
 go_enter Tryz.func70,Tryz.ntmps70
 go_wp2_with fail
 generalize w.alloc (.cells #[.int .i64 0,.string ⟨#[]⟩,.bool false,.slice none 0 0,.slice none 0 0,.int .i64 0,.int .i64 0,.int .i64 0] 46)=W0 at *
 refine (HL _).mono ?_
 rintro e w1 ⟨rfl,hb1⟩
 replace hW:=hW.below hb1
 replace R0:=R0.below hb1
 replace hb:=bel_tr hb hb1
 replace hsz:=Nat.le_trans hsz hb1.size
 clear HL hb1
 go_wp2_with fail
 refine (HP _).mono ?_
 rintro e w2 ⟨rfl,hb1⟩
 replace hW:=hW.below hb1
 replace R0:=R0.below hb1
 replace hb:=bel_tr hb hb1
 replace hsz:=Nat.le_trans hsz hb1.size
 clear HP hb1
 go_wp2
 go_loopw [17] (fun v wr=>∃ i:Nat,i≤2∧v = .int .i64 i∧Hid ((1≤i→W1=0∨C1=true)∧(2≤i→W2=0∨C2=true))∧Rw 46 wr w.heap.size #[.int .i64 0,.string ⟨#[]⟩,.bool false,.slice none 0 0,.slice none 0 0,.int .i64 0,.int .i64 0,.int .i64 0]∧w.heap.size+1≤wr.heap.size∧Wds wr∧Below w.heap.size w wr) (fun v _=>2-(intOf v).toNat)
 case atStart=>exact ⟨0,by omega,rfl,⟨fun h=>absurd h (by omega),fun h=>absurd h (by omega)⟩,R0,hsz,hW,hb⟩
 case round =>
  clear R0 hb hsz hW
  obtain ⟨i,hi,rfl,HN,R0,hsz,hW,hb⟩:=hrel
  rcases (by omega:i=0∨i=1∨i=2) with rfl|rfl|rfl
  ·have hxx:(x.size:Int)=(n:Int):=by omega
   by_cases z:W1=0
   ·rw [z] at W1c
    clear C1c
    have HN2:Hid ((1≤1→W1=0∨C1=true)∧(2≤1→W2=0∨C2=true)):=⟨fun _=>.inl z,fun h=>absurd h (by omega)⟩
    clear HN
    go_wp2_with fail
    refine (W1c _ hW).mono ?_
    rintro e w2 ⟨rfl,hb2⟩
    replace hW:=hW.below hb2
    replace R0:=R0.below hb2
    replace hb:=bel_tr hb hb2
    replace hsz:=Nat.le_trans hsz hb2.size
    clear hb2
    go_wp2
    go_roundw
    case rel=>exact ⟨1,by omega,by first|rfl|go_num,HN2,R0,hsz,hW,hb⟩
    case measure=>simp [intOf]
   ·have zI:¬ (W1:Int)=0:=by omega
    have zB:((W1:Int) == 0)=false:=beq_eq_false_iff_ne.2 zI
    by_cases q:C1=true
    ·rw [q] at C1c
     have HN2:Hid ((1≤1→W1=0∨C1=true)∧(2≤1→W2=0∨C2=true)):=⟨fun _=>.inr q,fun h=>absurd h (by omega)⟩
     clear HN q
     go_wp2_with fail
     refine (W1c _ hW).mono ?_
     rintro e w2 ⟨rfl,hb2⟩
     replace hW:=hW.below hb2
     replace R0:=R0.below hb2
     replace hb:=bel_tr hb hb2
     replace hsz:=Nat.le_trans hsz hb2.size
     clear hb2
     go_wp2_with fail
     refine (C1c _).mono ?_
     rintro e w3 ⟨rfl,hb2⟩
     replace hW:=hW.below hb2
     replace R0:=R0.below hb2
     replace hb:=bel_tr hb hb2
     replace hsz:=Nat.le_trans hsz hb2.size
     clear hb2
     go_wp2
     go_roundw
     case rel=>exact ⟨1,by omega,by first|rfl|go_num,HN2,R0,hsz,hW,hb⟩
     case measure=>simp [intOf]
    ·replace q:C1=false:=by simpa using q
     rw [q] at C1c
     obtain ⟨rfl,rfl,rfl⟩:=HR1.out ⟨z,q⟩
     clear HN q HR1 HR2 HR3
     go_wp2_with fail
     refine (W1c _ hW).mono ?_
     rintro e w2 ⟨rfl,hb2⟩
     replace R0:=R0.below hb2
     replace hb:=bel_tr hb hb2
     replace hsz:=Nat.le_trans hsz hb2.size
     clear hb2
     go_wp2_with fail
     refine (C1c _).mono ?_
     rintro e w3 ⟨rfl,hb2⟩
     replace R0:=R0.below hb2
     replace hb:=bel_tr hb hb2
     replace hsz:=Nat.le_trans hsz hb2.size
     clear hb2
     go_wp2_with (refine R0.put (tkC 9 x (.bool false) (.slice none 0 0) (.slice none 0 0) (WD:Nat) 0 0) rfl _ _ rfl rfl rfl tkI rfl (tkC_one _ _ _ _ _ rfl rfl rfl) ?_)
     intro w4 R2 O
     have hb2:=hb.trans (O.below (B:=w.heap.size) (Nat.le_refl _))
     go_wp2
     exact bodyPost_ret (R2.ret1 Tryz.results70 _ rfl Tryz.underlying46 tkI) rfl ⟨by rw [hx];rfl,hb2⟩
  ·have hyy:(y.size:Int)=(m:Int):=by omega
   by_cases z:W2=0
   ·rw [z] at W2c
    clear C2c
    have HN2:Hid ((1≤2→W1=0∨C1=true)∧(2≤2→W2=0∨C2=true)):=⟨fun _=>HN.out.1 (by omega),fun _=>.inl z⟩
    clear HN
    go_wp2_with fail
    refine (W2c _ hW).mono ?_
    rintro e w2 ⟨rfl,hb2⟩
    replace hW:=hW.below hb2
    replace R0:=R0.below hb2
    replace hb:=bel_tr hb hb2
    replace hsz:=Nat.le_trans hsz hb2.size
    clear hb2
    go_wp2
    go_roundw
    case rel=>exact ⟨2,by omega,by first|rfl|go_num,HN2,R0,hsz,hW,hb⟩
    case measure=>simp [intOf]
   ·have zI:¬ (W2:Int)=0:=by omega
    have zB:((W2:Int) == 0)=false:=beq_eq_false_iff_ne.2 zI
    by_cases q:C2=true
    ·rw [q] at C2c
     have HN2:Hid ((1≤2→W1=0∨C1=true)∧(2≤2→W2=0∨C2=true)):=⟨fun _=>HN.out.1 (by omega),fun _=>.inr q⟩
     clear HN q
     go_wp2_with fail
     refine (W2c _ hW).mono ?_
     rintro e w2 ⟨rfl,hb2⟩
     replace hW:=hW.below hb2
     replace R0:=R0.below hb2
     replace hb:=bel_tr hb hb2
     replace hsz:=Nat.le_trans hsz hb2.size
     clear hb2
     go_wp2_with fail
     refine (C2c _).mono ?_
     rintro e w3 ⟨rfl,hb2⟩
     replace hW:=hW.below hb2
     replace R0:=R0.below hb2
     replace hb:=bel_tr hb hb2
     replace hsz:=Nat.le_trans hsz hb2.size
     clear hb2
     go_wp2
     go_roundw
     case rel=>exact ⟨2,by omega,by first|rfl|go_num,HN2,R0,hsz,hW,hb⟩
     case measure=>simp [intOf]
    ·replace q:C2=false:=by simpa using q
     rw [q] at C2c
     obtain ⟨rfl,rfl,rfl⟩:=HR2.out ⟨HN.out.1 (by omega),z,q⟩
     clear HN q HR1 HR2 HR3
     go_wp2_with fail
     refine (W2c _ hW).mono ?_
     rintro e w2 ⟨rfl,hb2⟩
     replace R0:=R0.below hb2
     replace hb:=bel_tr hb hb2
     replace hsz:=Nat.le_trans hsz hb2.size
     clear hb2
     go_wp2_with fail
     refine (C2c _).mono ?_
     rintro e w3 ⟨rfl,hb2⟩
     replace R0:=R0.below hb2
     replace hb:=bel_tr hb hb2
     replace hsz:=Nat.le_trans hsz hb2.size
     clear hb2
     go_wp2_with (refine R0.put (tkC 9 y (.bool false) (.slice none 0 0) (.slice none 0 0) (WD:Nat) 0 0) rfl _ _ rfl rfl rfl tkI rfl (tkC_one _ _ _ _ _ rfl rfl rfl) ?_)
     intro w4 R2 O
     have hb2:=hb.trans (O.below (B:=w.heap.size) (Nat.le_refl _))
     go_wp2
     exact bodyPost_ret (R2.ret1 Tryz.results70 _ rfl Tryz.underlying46 tkI) rfl ⟨by rw [hy];rfl,hb2⟩
  ·obtain ⟨rfl,rfl,rfl⟩:=HR3.out ⟨HN.out.1 (by omega),HN.out.2 (by omega)⟩
   clear HN HR1 HR2 HR3
   go_wp2_with (refine R0.put (tkC 1 x (.bool false) (.slice none 0 0) (.slice none 0 0) 0 0 0) rfl _ _ rfl rfl rfl tkI rfl (tkC_one _ _ _ _ _ rfl rfl rfl) ?_)
   intro w4 R2 O
   have hb2:=hb.trans (O.below (B:=w.heap.size) (Nat.le_refl _))
   go_wp2
   exact bodyPost_ret (R2.ret1 Tryz.results70 _ rfl Tryz.underlying46 tkI) rfl ⟨by rw [hx];rfl,hb2⟩
end Go.Proofs.YtgdilnljjgdinaaGreatDoor
namespace Go.Proofs.YtgdilnljjgdinaaGreatDoor
open Go.RowKit Go.Shelf
def Ku (W W':World):Prop:=∀ (k:Nat) (c:Array Value),W.heap[k]? = some (.cells c 113 (0,0))→W'.heap[k]? = some (.cells c 113 (0,0))
theorem Ku.trans {A B C:World} (h:Ku A B) (k:Ku B C):Ku A C:=fun i c hi=>k i c (h i c hi)
theorem Ku.of_below {W W':World} (h:Below W.heap.size W W'):Ku W W':=fun k _ hk=>(h.block k (Array.getElem?_eq_some_iff.1 hk).1).trans hk
theorem Ku.of_turns {p:Obj→Bool} {B:Nat} {W W':World} (h:Turns p B W W') (hp:∀ c,p (.cells c 113 (0,0))=false):Ku W W':=fun k c hk=>h.block k _ hk (.inr (hp c))
theorem Ku.of_off {g:Nat} {W W':World} (h:Off g W W') (hg:∀ c,¬ W.heap[g]? = some (.cells c 113 (0,0))):Ku W W':=fun k c hk=>(h.block k (fun e=>by subst e;exact hg c hk)).trans hk
theorem Ku.put {D:Nat} {W:World} {o:Obj} (o':Obj) (h:W.heap[D]? = some o) (ho:o.isCells=false):Ku W (W.putObj D o'):=fun k c hk=>by
 have e:k≠D:=fun e=>by subst e;rw [h] at hk;cases hk;cases ho
 rw [World.putObj_heap_other e];exact hk
theorem Ku.of_grown {W W':World} {v:Value} {base size n:Nat} {e:TypeId} {xs:List Value} (hr:W.ownsRow base e size v n xs) (he:e≠113) (hg:W.grownBy W' v.ownBlock):Ku W W':=fun k c hk=>by
 refine (hg.block k (Array.getElem?_eq_some_iff.1 hk).1 ?_).trans hk
 rcases hr.2 with ⟨rfl,_⟩|⟨g,cap,cur,rfl,_,hgb,_⟩
 ·simp [Value.ownBlock]
 ·intro e1
  simp [Value.ownBlock] at e1
  subst e1
  rw [hk] at hgb
  simp at hgb
  exact he hgb.2.symm
theorem Ku.own {W W':World} (h:Ku W W') {B:Nat} {v:Value} {xs:List Int} (o:OwnV W B v xs):OwnV W' B v xs:=by
 refine ⟨o.1,?_⟩
 rcases o.2 with hn|⟨g,cap,cur,e1,e2,hgb,rest⟩
 ·exact .inl hn
 ·exact .inr ⟨g,cap,cur,e1,e2,h g cur hgb,rest⟩
theorem Ku.got {W W':World} (h:Ku W W') {B:Nat} {v:Value} {x:Int} {S:Nat} (o:Got W B v x S):Got W' B v x S:=by
 obtain ⟨xs,h1,h2⟩:=o;exact ⟨xs,h.own h1,h2⟩
theorem Ku.gr {W W':World} (h:Ku W W') {B:Nat} {f:Bool} {c:Option Addr} {n k:Nat} {c':Option Addr} {n' k':Nat} {r:Rat} {S:Nat} (o:GR W B f c n k c' n' k' r S):GR W' B f c n k c' n' k' r S:=by
 obtain ⟨⟨a,m,d,h1,h2⟩,h3,h4⟩:=o
 exact ⟨⟨a,m,d,h1,h.got h2⟩,h.got h3,h4⟩
def NumM (w:World) (B k:Nat) (f:Bool) (a1:Option Addr) (n1 k1:Nat) (a2:Option Addr) (n2 k2:Nat) (q:Rat):Prop :=
 (k=2∧GR w B f a1 n1 k1 a2 n2 k2 q 3000000)∨(k≠2∧q=0∧f=false∧a1=none∧n1=0∧k1=0∧a2=none∧n2=0∧k2=0)
theorem NumM.ku {W W':World} {B k:Nat} {f:Bool} {a1:Option Addr} {n1 k1:Nat} {a2:Option Addr} {n2 k2:Nat} {q:Rat} (h:NumM W B k f a1 n1 k1 a2 n2 k2 q) (u:Ku W W'):NumM W' B k f a1 n1 k1 a2 n2 k2 q :=
 h.imp (fun h=>⟨h.1,u.gr h.2⟩) id
theorem NumM.mono {W:World} {B B' k:Nat} {f:Bool} {a1:Option Addr} {n1 k1:Nat} {a2:Option Addr} {n2 k2:Nat} {q:Rat} (h:NumM W B k f a1 n1 k1 a2 n2 k2 q) (hB:B'≤B):NumM W B' k f a1 n1 k1 a2 n2 k2 q :=
 h.imp (fun h=>⟨h.1,h.2.mono hB⟩) id
theorem NumM.zero (W:World) (B:Nat) {k:Nat} (hk:k≠2):NumM W B k false none 0 0 none 0 0 0:=.inr ⟨hk,rfl,rfl,rfl,rfl,rfl,rfl,rfl,rfl⟩
end Go.Proofs.YtgdilnljjgdinaaGreatDoor
namespace Go.Proofs.YtgdilnljjgdinaaGreatDoor
open Go.RowKit Go.Shelf
theorem litN_le (l:List UInt8):litN l≤l.length:=by
 unfold litN
 have h1:=ldL_le l dgB
 generalize ldL l dgB=a at *
 split
 ·rename_i h
  have:=lbN_le (l.drop a) [47] h
  rw [List.length_drop] at this
  simp only [List.length_cons,List.length_nil] at this
  omega
 ·split
  ·rename_i h
   have:=(pfx_one h).2
   rw [List.length_drop] at this
   generalize lbN (l.drop a) [46]=c at *
   split
   ·omega
   ·have h2:=exN_le (l.drop (a+(1+c)))
    rw [List.length_drop] at h2
    omega
  ·have h2:=exN_le (l.drop a)
   rw [List.length_drop] at h2
   omega
set_option maxRecDepth 100000 in
set_option maxHeartbeats 4000000 in
theorem numberQ (s:ByteArray) (w:World) (hs:s.size≤100000000) {r:Rat} {S:Nat} (hP:∀ u,TB u→Parses (s.extract 0 (litN s.data.toList)) r S u) (hT:TB w) :
  Calls Tryz.prog 69 #[.string s] w fun e w'=>∃ f c n k c' n' k',e = .returned (.tuple #[.agg (tkC 2 (s.extract 0 (litN s.data.toList)) (.bool f) (.slice c n k) (.slice c' n' k') 0 0 0),.nilIface])∧GR w' w.heap.size f c n k c' n' k' r S∧Below w.heap.size w w':=by
 have HL:=fun u=>literalN s u hs
 have hl1:=litN_le s.data.toList
 rw [len_list] at hl1
 generalize litN s.data.toList=N at *
 have n0:(0:Int)≤(N:Int):=by omega
 have nI:(N:Int)≤(s.size:Int):=by omega
 obtain ⟨x,hx⟩:∃ x,s.extract 0 N=x:=⟨_,rfl⟩
 rw [hx] at hP ⊢
 have R0:=Rw.new 46 w #[.int .i64 0,.string ⟨#[]⟩,.bool false,.slice none 0 0,.slice none 0 0,.int .i64 0,.int .i64 0,.int .i64 0]
 have hb:Below w.heap.size w (w.alloc (.cells #[.int .i64 0,.string ⟨#[]⟩,.bool false,.slice none 0 0,.slice none 0 0,.int .i64 0,.int .i64 0,.int .i64 0] 46)):=(Below.refl _ _).alloc (Nat.le_refl _) _
 have hsz:w.heap.size+1≤(w.alloc (.cells #[.int .i64 0,.string ⟨#[]⟩,.bool false,.slice none 0 0,.slice none 0 0,.int .i64 0,.int .i64 0,.int .i64 0] 46)).heap.size:=by simp
 replace hT:=hT.below hb
 go_enter Tryz.func69,Tryz.ntmps69
 go_wp2_with fail
 generalize w.alloc (.cells #[.int .i64 0,.string ⟨#[]⟩,.bool false,.slice none 0 0,.slice none 0 0,.int .i64 0,.int .i64 0,.int .i64 0] 46)=W0 at *
 refine (HL _).mono ?_
 rintro e w1 ⟨rfl,hb1⟩
 replace hT:=hT.below hb1
 replace R0:=R0.below hb1
 replace hb:=bel_tr hb hb1
 replace hsz:=Nat.le_trans hsz hb1.size
 clear HL hb1
 go_wp2_with fail
 refine (hP _ hT).mono ?_
 rintro e w2 ⟨f,c,n,k,c',n',k',rfl,G,hb1⟩
 replace G:=(G.below (bel_d0 _ (.cells #[.bool f,.slice c n k,.slice c' n' k'] 44))).mono hsz
 replace R0:=R0.below hb1
 replace hb:=bel_tr hb hb1
 replace hsz:=Nat.le_trans hsz hb1.size
 clear hP hb1 hT
 have R1:=R0.alloc (.cells #[.bool f,.slice c n k,.slice c' n' k'] 44)
 have hb2:=hb.alloc (by omega) (.cells #[.bool f,.slice c n k,.slice c' n' k'] 44)
 go_wp2_with (refine R1.put (tkC 2 x (.bool f) (.slice c n k) (.slice c' n' k') 0 0 0) rfl _ _ rfl rfl rfl tkI rfl (tkC_one _ _ _ _ _ rfl rfl rfl) ?_)
 intro w4 R2 O
 replace G:=(G.off O (Nat.lt_succ_self _)).mono (Nat.le_succ _)
 have hb3:=hb2.trans (O.below (B:=w.heap.size) (Nat.le_refl _))
 go_wp2
 exact bodyPost_ret (R2.ret2 Tryz.results69 _ rfl Tryz.underlying46 tkI) rfl ⟨f,c,n,k,c',n',k',rfl,G,hb3⟩
set_option maxRecDepth 100000 in
set_option maxHeartbeats 4000000 in
theorem numberE (s:ByteArray) (w:World) (hs:s.size≤100000000) {g:Nat} (hP:Fails (s.extract 0 (litN s.data.toList)) g) {ev:Value} (E:Errs w g ev) :
  Calls Tryz.prog 69 #[.string s] w fun e w'=>e = .returned (.tuple #[.agg #[.int .i64 0,.string ⟨#[]⟩,.bool false,.slice none 0 0,.slice none 0 0,.int .i64 0,.int .i64 0,.int .i64 0],ev])∧Below w.heap.size w w':=by
 have HL:=fun u=>literalN s u hs
 have hl1:=litN_le s.data.toList
 rw [len_list] at hl1
 generalize litN s.data.toList=N at *
 have n0:(0:Int)≤(N:Int):=by omega
 have nI:(N:Int)≤(s.size:Int):=by omega
 obtain ⟨x,hx⟩:∃ x,s.extract 0 N=x:=⟨_,rfl⟩
 rw [hx] at hP
 have R0:=Rw.new 46 w #[.int .i64 0,.string ⟨#[]⟩,.bool false,.slice none 0 0,.slice none 0 0,.int .i64 0,.int .i64 0,.int .i64 0]
 have hb:Below w.heap.size w (w.alloc (.cells #[.int .i64 0,.string ⟨#[]⟩,.bool false,.slice none 0 0,.slice none 0 0,.int .i64 0,.int .i64 0,.int .i64 0] 46)):=(Below.refl _ _).alloc (Nat.le_refl _) _
 have hsz:w.heap.size+1≤(w.alloc (.cells #[.int .i64 0,.string ⟨#[]⟩,.bool false,.slice none 0 0,.slice none 0 0,.int .i64 0,.int .i64 0,.int .i64 0] 46)).heap.size:=by simp
 replace E:=E.below hb
 go_enter Tryz.func69,Tryz.ntmps69
 go_wp2_with fail
 generalize w.alloc (.cells #[.int .i64 0,.string ⟨#[]⟩,.bool false,.slice none 0 0,.slice none 0 0,.int .i64 0,.int .i64 0,.int .i64 0] 46)=W0 at *
 refine (HL _).mono ?_
 rintro e w1 ⟨rfl,hb1⟩
 replace E:=E.below hb1
 replace R0:=R0.below hb1
 replace hb:=bel_tr hb hb1
 replace hsz:=Nat.le_trans hsz hb1.size
 clear HL hb1
 go_wp2_with fail
 refine (hP _ _ E).mono ?_
 rintro e w2 ⟨rfl,hb1⟩
 replace R0:=R0.below hb1
 replace hb:=bel_tr hb hb1
 replace hsz:=Nat.le_trans hsz hb1.size
 obtain ⟨p,rfl⟩:=E.2
 clear hP hb1 E
 have R1:=R0.alloc (.cells #[.bool false,.slice none 0 0,.slice none 0 0] 44)
 have hb2:=hb.alloc (by omega) (.cells #[.bool false,.slice none 0 0,.slice none 0 0] 44)
 go_wp2_with (refine R1.put #[.int .i64 0,.string ⟨#[]⟩,.bool false,.slice none 0 0,.slice none 0 0,.int .i64 0,.int .i64 0,.int .i64 0] rfl _ _ rfl rfl rfl tkI rfl (tkC_one 0 ⟨#[]⟩ 0 0 0 rfl rfl rfl) ?_)
 intro w4 R2 O
 have hb3:=hb2.trans (O.below (B:=w.heap.size) (Nat.le_refl _))
 go_wp2
 exact bodyPost_ret (R2.ret2 Tryz.results69 _ rfl Tryz.underlying46 tkI) rfl ⟨rfl,hb3⟩
structure Tabs (w:World):Prop where
 W:Wds w
 S:Sgs w
 T:TB w
theorem Tabs.below {w w':World} (h:Tabs w) (hb:Below w.heap.size w w'):Tabs w':=⟨h.W.below hb,h.S.below hb,h.T.below hb⟩
def ReadOk (s:ByteArray) (k n wd:Nat) (q:Rat):Prop:=∀ w,Tabs w→Calls Tryz.prog 38 #[.string s] w fun e w'=>∃ (f:Bool) (a1:Option Addr) (n1 k1:Nat) (a2:Option Addr) (n2 k2:Nat),e = .returned (.tuple #[.agg (tkC (k:Nat) (s.extract 0 n) (.bool f) (.slice a1 n1 k1) (.slice a2 n2 k2) (wd:Nat) 0 0),.nilIface])∧NumM w' w.heap.size k f a1 n1 k1 a2 n2 k2 q∧Below w.heap.size w w'
def ReadNo (s:ByteArray) (g:Nat):Prop:=∀ w ev,Errs w g ev→Tabs w→Calls Tryz.prog 38 #[.string s] w fun e w'=>e = .returned (.tuple #[.agg #[.int .i64 0,.string ⟨#[]⟩,.bool false,.slice none 0 0,.slice none 0 0,.int .i64 0,.int .i64 0,.int .i64 0],ev])∧Below w.heap.size w w'
set_option maxRecDepth 100000 in
set_option maxHeartbeats 4000000 in
theorem read_num (s:ByteArray) (hs:s.size≤100000000) (h0:0<s.size) (hB:begL s.data.toList=true) {r:Rat} {S:Nat} (hP:∀ u,TB u→Parses (s.extract 0 (litN s.data.toList)) r S u) (hS:S≤3000000):ReadOk s 2 (litN s.data.toList) 0 r:=by
 intro w hT
 have HB:=fun u=>begQ s u (by omega) h0
 rw [hB] at HB
 have HN:=fun u (hu:TB u)=>numberQ s u hs hP hu
 generalize s.extract 0 (litN s.data.toList)=x at *
 clear hP hB
 have R0:=Rw.new 46 w #[.int .i64 0,.string ⟨#[]⟩,.bool false,.slice none 0 0,.slice none 0 0,.int .i64 0,.int .i64 0,.int .i64 0]
 have hb:Below w.heap.size w (w.alloc (.cells #[.int .i64 0,.string ⟨#[]⟩,.bool false,.slice none 0 0,.slice none 0 0,.int .i64 0,.int .i64 0,.int .i64 0] 46)):=(Below.refl _ _).alloc (Nat.le_refl _) _
 have hsz:w.heap.size+1≤(w.alloc (.cells #[.int .i64 0,.string ⟨#[]⟩,.bool false,.slice none 0 0,.slice none 0 0,.int .i64 0,.int .i64 0,.int .i64 0] 46)).heap.size:=by simp
 replace hT:=hT.below hb
 go_enter Tryz.func38,Tryz.ntmps38
 go_wp2_with fail
 generalize w.alloc (.cells #[.int .i64 0,.string ⟨#[]⟩,.bool false,.slice none 0 0,.slice none 0 0,.int .i64 0,.int .i64 0,.int .i64 0] 46)=W0 at *
 refine (HB _).mono ?_
 rintro e w1 ⟨rfl,hb1⟩
 replace hT:=hT.below hb1
 replace R0:=R0.below hb1
 replace hb:=bel_tr hb hb1
 replace hsz:=Nat.le_trans hsz hb1.size
 clear HB hb1
 go_wp2_with fail
 refine (HN _ hT.T).mono ?_
 rintro e w2 ⟨f,c,n,k,c',n',k',rfl,G,hb1⟩
 replace G:=(G.le hS).mono hsz
 replace R0:=R0.below hb1
 replace hb:=bel_tr hb hb1
 replace hsz:=Nat.le_trans hsz hb1.size
 clear HN hb1 hT
 go_wp2_with (refine R0.put (tkC 2 x (.bool f) (.slice c n k) (.slice c' n' k') 0 0 0) rfl _ _ rfl rfl rfl tkI rfl (tkC_one _ _ _ _ _ rfl rfl rfl) ?_)
 intro w4 R2 O
 replace G:=(G.off O (Nat.lt_succ_self _)).mono (Nat.le_succ _)
 have hb3:=hb.trans (O.below (B:=w.heap.size) (Nat.le_refl _))
 go_wp2
 exact bodyPost_ret (R2.ret2 Tryz.results38 _ rfl Tryz.underlying46 tkI) rfl ⟨f,c,n,k,c',n',k',rfl,.inl ⟨rfl,G⟩,hb3⟩
set_option maxRecDepth 100000 in
set_option maxHeartbeats 4000000 in
theorem read_no (s:ByteArray) (hs:s.size≤100000000) (h0:0<s.size) (hB:begL s.data.toList=true) {g:Nat} (hP:Fails (s.extract 0 (litN s.data.toList)) g):ReadNo s g:=by
 intro w ev E hT
 have HB:=fun u=>begQ s u (by omega) h0
 rw [hB] at HB
 have HN:=fun u (hu:Errs u g ev)=>numberE s u hs hP hu
 clear hP hB hT
 have R0:=Rw.new 46 w #[.int .i64 0,.string ⟨#[]⟩,.bool false,.slice none 0 0,.slice none 0 0,.int .i64 0,.int .i64 0,.int .i64 0]
 have hb:Below w.heap.size w (w.alloc (.cells #[.int .i64 0,.string ⟨#[]⟩,.bool false,.slice none 0 0,.slice none 0 0,.int .i64 0,.int .i64 0,.int .i64 0] 46)):=(Below.refl _ _).alloc (Nat.le_refl _) _
 have hsz:w.heap.size+1≤(w.alloc (.cells #[.int .i64 0,.string ⟨#[]⟩,.bool false,.slice none 0 0,.slice none 0 0,.int .i64 0,.int .i64 0,.int .i64 0] 46)).heap.size:=by simp
 replace E:=E.below hb
 go_enter Tryz.func38,Tryz.ntmps38
 go_wp2_with fail
 generalize w.alloc (.cells #[.int .i64 0,.string ⟨#[]⟩,.bool false,.slice none 0 0,.slice none 0 0,.int .i64 0,.int .i64 0,.int .i64 0] 46)=W0 at *
 refine (HB _).mono ?_
 rintro e w1 ⟨rfl,hb1⟩
 replace E:=E.below hb1
 replace R0:=R0.below hb1
 replace hb:=bel_tr hb hb1
 replace hsz:=Nat.le_trans hsz hb1.size
 clear HB hb1
 go_wp2_with fail
 refine (HN _ E).mono ?_
 rintro e w2 ⟨rfl,hb1⟩
 replace R0:=R0.below hb1
 replace hb:=bel_tr hb hb1
 replace hsz:=Nat.le_trans hsz hb1.size
 obtain ⟨p,rfl⟩:=E.2
 clear HN hb1 E
 go_wp2_with (refine R0.put #[.int .i64 0,.string ⟨#[]⟩,.bool false,.slice none 0 0,.slice none 0 0,.int .i64 0,.int .i64 0,.int .i64 0] rfl _ _ rfl rfl rfl tkI rfl (tkC_one 0 ⟨#[]⟩ 0 0 0 rfl rfl rfl) ?_)
 intro w4 R2 O
 have hb3:=hb.trans (O.below (B:=w.heap.size) (Nat.le_refl _))
 go_wp2
 exact bodyPost_ret (R2.ret2 Tryz.results38 _ rfl Tryz.underlying46 tkI) rfl ⟨rfl,hb3⟩
theorem idx_nm (c:UInt8):(0≤Lib.indexByte nmB c)↔nmB.contains c=true:=by
 have h:∀ c:UInt8,decide (0≤Lib.indexByte nmB c)=nmB.contains c:=fun c=>byte_all (p:=fun c=>decide (0≤Lib.indexByte nmB c)=nmB.contains c) (by decide +kernel) c
 rw [← h c];simp
theorem nm_idx (c:UInt8) (u:World):Calls Tryz.prog 52 #[.string ⟨#[65,66,67,68,69,70,71,72,73,74,75,76,77,78,79,80,81,82,83,84,85,86,87,88,89,90,97,98,99,100,101,102,103,104,105,106,107,108,109,110,111,112,113,114,115,116,117,118,119,120,121,122,48,49,50,51,52,53,54,55,56,57,33,34,35,36,37,38,40,41,44,46,59,63,64,95,39,96,123,125,126]⟩,.int .u8 (c.toNat:Int)] u fun e w'=>e = .returned (.int .i64 (Lib.indexByte nmB c))∧w'=u:=idxQ ⟨#[65,66,67,68,69,70,71,72,73,74,75,76,77,78,79,80,81,82,83,84,85,86,87,88,89,90,97,98,99,100,101,102,103,104,105,106,107,108,109,110,111,112,113,114,115,116,117,118,119,120,121,122,48,49,50,51,52,53,54,55,56,57,33,34,35,36,37,38,40,41,44,46,59,63,64,95,39,96,123,125,126]⟩ c u
set_option maxRecDepth 100000 in
set_option maxHeartbeats 4000000 in
theorem read_name (s:ByteArray) (hs:s.size≤100000000) (h0:0<s.size) (hB:begL s.data.toList=false) (hC:nmB.contains (s.data.toList.getD 0 0)=true) {K WD N:Nat} (hK:nmN s.data.toList=(K,WD,N)) (hK2:K≠2):ReadOk s K N WD 0:=by
 intro w hT
 have HB:=fun u=>begQ s u (by omega) h0
 rw [hB] at HB
 have HI:=fun u=>nm_idx (s.data.toList.getD 0 0) u
 have hi:=(idx_nm _).2 hC
 have hby:=getD_get h0
 have h0I:(0:Int)<(s.size:Int):=by omega
 generalize Lib.indexByte nmB (s.data.toList.getD 0 0)=q at *
 generalize ((s.data.toList.getD 0 0).toNat:Int)=C at *
 have HN:=fun u (hu:Wds u)=>nameQ s u hs hu K WD N hK
 generalize s.extract 0 N=x at *
 clear hK hB hC
 have R0:=Rw.new 46 w #[.int .i64 0,.string ⟨#[]⟩,.bool false,.slice none 0 0,.slice none 0 0,.int .i64 0,.int .i64 0,.int .i64 0]
 have hb:Below w.heap.size w (w.alloc (.cells #[.int .i64 0,.string ⟨#[]⟩,.bool false,.slice none 0 0,.slice none 0 0,.int .i64 0,.int .i64 0,.int .i64 0] 46)):=(Below.refl _ _).alloc (Nat.le_refl _) _
 have hsz:w.heap.size+1≤(w.alloc (.cells #[.int .i64 0,.string ⟨#[]⟩,.bool false,.slice none 0 0,.slice none 0 0,.int .i64 0,.int .i64 0,.int .i64 0] 46)).heap.size:=by simp
 replace hT:=hT.below hb
 go_enter Tryz.func38,Tryz.ntmps38
 go_wp2_with fail
 generalize w.alloc (.cells #[.int .i64 0,.string ⟨#[]⟩,.bool false,.slice none 0 0,.slice none 0 0,.int .i64 0,.int .i64 0,.int .i64 0] 46)=W0 at *
 refine (HB _).mono ?_
 rintro e w1 ⟨rfl,hb1⟩
 replace hT:=hT.below hb1
 replace R0:=R0.below hb1
 replace hb:=bel_tr hb hb1
 replace hsz:=Nat.le_trans hsz hb1.size
 clear HB hb1
 go_wp2_with fail
 refine (HI _).mono ?_
 rintro e w2 ⟨rfl,rfl⟩
 clear HI
 go_wp2_with fail
 refine (HN _ hT.W).mono ?_
 rintro e w3 ⟨rfl,hb1⟩
 replace R0:=R0.below hb1
 replace hb:=bel_tr hb hb1
 replace hsz:=Nat.le_trans hsz hb1.size
 clear HN hb1 hT
 go_wp2_with (refine R0.put (tkC (K:Nat) x (.bool false) (.slice none 0 0) (.slice none 0 0) (WD:Nat) 0 0) rfl _ _ rfl rfl rfl tkI rfl (tkC_one _ _ _ _ _ rfl rfl rfl) ?_)
 intro w4 R2 O
 have hb3:=hb.trans (O.below (B:=w.heap.size) (Nat.le_refl _))
 go_wp2
 exact bodyPost_ret (R2.ret2 Tryz.results38 _ rfl Tryz.underlying46 tkI) rfl ⟨_,_,_,_,_,_,_,rfl,NumM.zero _ _ hK2,hb3⟩
theorem sgK_ne:∀ n,n<10→sgK n≠2:=by decide
set_option maxRecDepth 100000 in
set_option maxHeartbeats 4000000 in
theorem read_sign (s:ByteArray) (hs:s.size≤100000000) (h0:0<s.size) (hB:begL s.data.toList=false) (hC:nmB.contains (s.data.toList.getD 0 0)=false) (n:Nat) (hn:n<10) (hyes:(sgX n).data.toList.isPrefixOf s.data.toList=true) (hno:∀ j,j<n→(sgX j).data.toList.isPrefixOf s.data.toList=false):ReadOk s (sgK n) (sgX n).size 0 0:=by
 intro w hT
 have hK2:sgK n≠2:=sgK_ne n hn
 have HB:=fun u=>begQ s u (by omega) h0
 rw [hB] at HB
 have HI:=fun u=>nm_idx (s.data.toList.getD 0 0) u
 have hi:¬ 0≤Lib.indexByte nmB (s.data.toList.getD 0 0):=fun h=>by have:=(idx_nm _).1 h;rw [hC] at this;cases this
 have hby:=getD_get h0
 have h0I:(0:Int)<(s.size:Int):=by omega
 generalize Lib.indexByte nmB (s.data.toList.getD 0 0)=q at *
 generalize ((s.data.toList.getD 0 0).toNat:Int)=C at *
 have HN:=fun u (hu:Sgs u)=>signQ s u n hn hyes hno hu
 have hx:s.extract 0 (sgX n).size=sgX n:=ba_eq (by
  rw [ext_front,← len_list]
  obtain ⟨t,ht⟩:=List.isPrefixOf_iff_prefix.1 hyes
  rw [← ht,List.take_left])
 rw [hx]
 generalize sgX n=x at *
 generalize sgK n=kk at *
 clear hB hC hyes hno hx
 have R0:=Rw.new 46 w #[.int .i64 0,.string ⟨#[]⟩,.bool false,.slice none 0 0,.slice none 0 0,.int .i64 0,.int .i64 0,.int .i64 0]
 have hb:Below w.heap.size w (w.alloc (.cells #[.int .i64 0,.string ⟨#[]⟩,.bool false,.slice none 0 0,.slice none 0 0,.int .i64 0,.int .i64 0,.int .i64 0] 46)):=(Below.refl _ _).alloc (Nat.le_refl _) _
 have hsz:w.heap.size+1≤(w.alloc (.cells #[.int .i64 0,.string ⟨#[]⟩,.bool false,.slice none 0 0,.slice none 0 0,.int .i64 0,.int .i64 0,.int .i64 0] 46)).heap.size:=by simp
 replace hT:=hT.below hb
 go_enter Tryz.func38,Tryz.ntmps38
 go_wp2_with fail
 generalize w.alloc (.cells #[.int .i64 0,.string ⟨#[]⟩,.bool false,.slice none 0 0,.slice none 0 0,.int .i64 0,.int .i64 0,.int .i64 0] 46)=W0 at *
 refine (HB _).mono ?_
 rintro e w1 ⟨rfl,hb1⟩
 replace hT:=hT.below hb1
 replace R0:=R0.below hb1
 replace hb:=bel_tr hb hb1
 replace hsz:=Nat.le_trans hsz hb1.size
 clear HB hb1
 go_wp2_with fail
 refine (HI _).mono ?_
 rintro e w2 ⟨rfl,rfl⟩
 clear HI
 go_wp2_with fail
 refine (HN _ hT.S).mono ?_
 rintro e w3 ⟨rfl,hb1⟩
 replace R0:=R0.below hb1
 replace hb:=bel_tr hb hb1
 replace hsz:=Nat.le_trans hsz hb1.size
 clear HN hb1 hT
 go_wp2_with (refine R0.put (tkC (kk:Nat) x (.bool false) (.slice none 0 0) (.slice none 0 0) 0 0 0) rfl _ _ rfl rfl rfl tkI rfl (tkC_one _ _ _ _ _ rfl rfl rfl) ?_)
 intro w4 R2 O
 have hb3:=hb.trans (O.below (B:=w.heap.size) (Nat.le_refl _))
 go_wp2
 exact bodyPost_ret (R2.ret2 Tryz.results38 _ rfl Tryz.underlying46 tkI) rfl ⟨_,_,_,_,_,_,_,rfl,NumM.zero _ _ hK2,hb3⟩
end Go.Proofs.YtgdilnljjgdinaaGreatDoor
