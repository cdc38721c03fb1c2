import Derived.Test.YtgdilnljjgdinaaGreatDoorPrEAll
import Derived.Laws.Runes
import Derived.Laws.RangeAny
import Derived.Deep.LoopGhost
import Derived.Scope
import Derived.Lib.OthersKept
namespace Go.Proofs.YtgdilnljjgdinaaGreatDoor
open Go.RowKit Go.Shelf
set_option maxHeartbeats 4000000 in
theorem validR (r:Int) (w:World) (h0:0≤r):Calls Tryz.prog 138 #[.int .i32 r] w fun e w'=>e = .returned (.bool (Utf8.valid r))∧w'=w:=by
 by_cases h1:r<55296
 ·rw [show Utf8.valid r=true by simp [Utf8.valid];omega]
  go_enter Tryz.func138,Tryz.ntmps138
  go_wp2
  go_ret
  exact ⟨rfl,rfl⟩
 ·by_cases h2:57343<r
  ·by_cases h3:r≤1114111
   ·rw [show Utf8.valid r=true by simp [Utf8.valid];omega]
    go_enter Tryz.func138,Tryz.ntmps138
    go_wp2
    go_ret
    exact ⟨rfl,rfl⟩
   ·rw [show Utf8.valid r=false by simp [Utf8.valid];omega]
    go_enter Tryz.func138,Tryz.ntmps138
    go_wp2
    go_ret
    exact ⟨rfl,rfl⟩
  ·rw [show Utf8.valid r=false by simp [Utf8.valid];omega]
   go_enter Tryz.func138,Tryz.ntmps138
   go_wp2
   go_ret
   exact ⟨rfl,rfl⟩
theorem sbyteE {t:ByteArray} (ht:t.size=0) (c:Int) (w:World):Calls Tryz.prog 52 #[.string t,.int .u8 c] w fun e w'=>e = .returned (.int .i64 (-1))∧w'=w:=by
 obtain rfl:t=⟨#[]⟩:=by
  obtain ⟨⟨l⟩⟩:=t
  cases l with
  | nil=>rfl
  | cons x r=>exact absurd ht (by show ¬ ((x::r).length=0);simp)
 go_enter Tryz.func52,Tryz.ntmps52
 go_wp2_with fail
 refine (ibyteS _ _ _).mono ?_
 rintro e w' ⟨rfl,rfl⟩
 go_wp2
 go_ret
 exact ⟨rfl,rfl⟩
set_option maxRecDepth 100000 in
set_option maxHeartbeats 8000000 in
theorem irune2 (s:ByteArray) (hs:s.size=2) (ha:∀ (i:Nat) (h:i<s.size),(s[i]'h).toNat<128) (r:Int) (w:World) (r0:128≤r) :
  Calls Tryz.prog 122 #[.string s,.int .i32 r] w fun e w'=>e = .returned (.int .i64 (-1))∧Below w.heap.size w w':=by
 by_cases hE:r=65533
 ·subst hE
  go_enter Tryz.func122,Tryz.ntmps122
  go_wp2_with fail
  go_loopg [5,6] 2 (fun g _ _ wx=>∃ i:Nat,i+g=2∧wx=w.iter s i)
  case atStart=>exact ⟨0,by omega,rfl⟩
  case round =>
   obtain ⟨i,hig,rfl⟩:=hrel
   cases gk with
   | zero =>
    obtain rfl:i=2:=by omega
    have hnx:=fun ty=>run_next_end (P:=Tryz.prog) w s 2 ty (by omega)
    go_wp2
    go_ret
    exact ⟨rfl,(Below.refl _ _).alloc (Nat.le_refl _) _⟩
   | succ g =>
    have hi:i<s.size:=by omega
    have hnx:=fun ty=>run_next_ascii (P:=Tryz.prog) w s i ty hi (ha i hi)
    have hx:=ha i hi
    generalize (s[i]'hi).toNat=x at *
    have hx2:¬ (x:Int)=65533:=by omega
    go_wp2
    go_roundg g
    case measure=>omega
    case rel=>exact ⟨i+1,by omega,rfl⟩
 ·go_enter Tryz.func122,Tryz.ntmps122
  go_wp2_with fail
  refine (validR r _ (by omega)).mono ?_
  rintro e w' ⟨rfl,rfl⟩
  cases hv:Utf8.valid r
  ·go_wp2
   go_ret
   exact ⟨rfl,Below.refl _ _⟩
  ·obtain ⟨e1,e2,e3⟩:=encode_facts r hv r0
   have hcv:=fun w=>run_convert_int_string (P:=Tryz.prog) w 21 9 .i32 r rfl Tryz.underlying9
   generalize Utf8.encode r=E at *
   clear hv
   go_wp2_with fail
   refine wp_scope_straight ?_
   go_wp2_with fail
   by_cases h2:E.size=2
   ·have f0:=ha 1 (by omega)
    have f1:=e3 (by omega)
    have f2:128≤(E[1]'(by omega)).toNat:=by
     have:∀ (k:Nat) (hk:k=1) (h:k<E.size),128≤(E[k]'h).toNat→128≤(E[1]'(by omega)).toNat:=fun k hk h hh=>by subst hk;exact hh
     exact this _ (by omega) _ f1
    clear ha e1 e2 e3 f1
    have k1:(1:Int)<(s.size:Int):=by omega
    have k2:(1:Int)<(E.size:Int):=by omega
    have k3:(E.size:Int)-1=1:=by omega
    have hne:¬ ((s[1]'(by omega)).toNat:Int)=((E[1]'(by omega)).toNat:Int):=by omega
    rw [k3]
    go_loopw [9,10] (fun a b wr=>a = .int .i64 1∧b = .int .i64 0∧wr=w') (fun _ _ _=>0)
    case atStart=>exact ⟨rfl,rfl,rfl⟩
    case round =>
     obtain ⟨rfl,rfl,rfl⟩:=hrel
     go_wp2_with fail
     refine wp_scope_straight ?_
     go_wp2_with fail
     go_quiet (fail)
     have hbq:Below wr.heap.size wr (wr.drewN nq):=belN (Below.refl _ _) _
     generalize wr.drewN nq=wq at *
     go_wp2_with fail
     have hw2:IntKind.i64.wrap 2=2:=by decide
     have k6:(2:Int)≤(s.size:Int):=by omega
     go_quiet ((go_at_call 52;exact Calls.quiet_of_same (sbyteE rfl _ _)))
     go_wp2
     simp +zetaDelta only [Exit.noGoto,Exit.inBlock,Exit.then]
     go_ret
     exact ⟨rfl,belN hbq _⟩
   ·have k1:¬ ((E.size:Int)-1<(s.size:Int)):=by omega
    go_loopw [9,10] (fun a b wr=>a = .int .i64 ((E.size:Int)-1)∧b = .int .i64 0∧wr=w') (fun _ _ _=>0)
    case atStart=>exact ⟨rfl,rfl,rfl⟩
    case round =>
     obtain ⟨rfl,rfl,rfl⟩:=hrel
     go_wp2
     go_ret
     exact ⟨rfl,Below.refl _ _⟩
end Go.Proofs.YtgdilnljjgdinaaGreatDoor
namespace Go.Proofs.YtgdilnljjgdinaaGreatDoor
open Go.RowKit Go.Shelf
theorem get_in (s:ByteArray) (k:Nat) (h:k<s.size):s.get! k=s[k]'h:=by
 have:=get_at s k h
 rwa [Nat.add_zero] at this
theorem decode_cont (s:ByteArray) (pos:Nat) (h:pos<s.size) (ha:128≤(s[pos]'h).toNat):pos+(Utf8.decode s pos).2≤s.size∧∀ k,k<(Utf8.decode s pos).2→128≤(s.get! (pos+k)).toNat:=by
 have hn:¬ (s[pos]'h).toNat<128:=by omega
 have h0:s.get! pos=s[pos]'h:=get_in s pos h
 simp only [Utf8.decode,get_at s pos h,hn,if_false]
 repeat' split
 all_goals simp_all
 all_goals first
  | omega
  | (refine ⟨by omega,fun k hk=>?_⟩;rcases (by omega:k=0∨k=1∨k=2∨k=3) with rfl|rfl|rfl|rfl;all_goals first|omega|(simp only [Nat.add_zero,h0];omega))
theorem iruneA (s:ByteArray) (r:Int) (w:World) (h0:0≤r) (h1:r<128) :
  Calls Tryz.prog 122 #[.string s,.int .i32 r] w fun e w'=>e = .returned (.int .i64 (Lib.indexByte s.data.toList r.toNat.toUInt8))∧w'=w:=Any.strings_IndexRune_ascii { Tryz.lays153 with } s r w h0 h1
theorem useSet (n:Int) (w:World):Calls Tryz.prog 157 #[.int .i64 n] w fun e w'=>e = .returned (.bool (decide (8<n)))∧w'=w:=Any.strings_shouldUseASCIISet { Tryz.lays153 with } n w
theorem noAny_run {l cs:List UInt8} {i d:Nat} (h:Lib.NoAny l cs i) (hd:∀ k,k<d→∃ x,l[i+k]? = some x∧cs.contains x=false):Lib.NoAny l cs (i+d):=by
 induction d with
 | zero=>exact h
 | succ d ih =>
  obtain ⟨x,h1,h2⟩:=hd d (by omega)
  exact (ih fun k hk=>hd k (by omega)).succ h1 h2
theorem below_iterAt {n₀ k:Nat} {w W:World} (h:Below n₀ w W) (hk:n₀≤k) (s:ByteArray) (pos:Nat):Below n₀ w (W.iterAt k s pos) :=
 ⟨h.os,h.tape,h.output,by simpa [World.iterAt] using h.size,fun j hj=>by
  have e:(W.iterAt k s pos).heap[j]? = W.heap[j]?:=by
   show (W.heap.setIfInBounds k _)[j]? = _
   rw [Array.getElem?_setIfInBounds_ne (by omega)]
  rw [e];exact h.block j hj⟩
set_option maxRecDepth 100000 in
set_option maxHeartbeats 8000000 in
theorem ianyZ (s cs:ByteArray) (w:World) (h2:cs.size=2) (h8:s.size≤8) (hc:∀ (i:Nat) (h:i<cs.size),(cs[i]'h).toNat<128) :
  Calls Tryz.prog 147 #[.string s,.string cs] w fun e w'=>e = .returned (.int .i64 (Lib.indexAny s.data.toList cs.data.toList))∧Below w.heap.size w w':=by
 have HC:Hid (∀ (i:Nat) (h:i<cs.size),(cs[i]'h).toNat<128):=hc
 have HCL:Hid (∀ x:UInt8,128≤x.toNat→cs.data.toList.contains x=false):=fun x hx=>by
  rw [← Bool.not_eq_true,List.contains_iff_mem]
  intro hm
  obtain ⟨j,hj,e⟩:=List.getElem_of_mem hm
  have hj':j<cs.size:=by rw [← sizeL];exact hj
  have:=hc j hj'
  have e2:cs[j]'hj'=x:=by rw [← e];rfl
  rw [e2] at this
  omega
 clear hc
 have hemp:cs.toList.isEmpty=false:=by
  rw [Lib.toList_data]
  cases h:cs.data.toList with
  | nil=>have:=Lib.size_eq cs;rw [h,List.length_nil] at this;omega
  | cons _ _=>rfl
 have hn1:((cs.size:Int) == 1)=false:=beq_eq_false_iff_ne.2 (by omega)
 have h8z:decide ((8:Int)<(s.size:Int))=false:=decide_eq_false (by omega)
 go_enter Tryz.func147,Tryz.ntmps147
 go_wp2_with fail
 refine (useSet _ _).mono ?_
 rintro e w' ⟨rfl,rfl⟩
 rw [h8z]
 clear h8z
 go_wp2_with fail
 go_loopg [9,10] s.size (fun g _ _ wx=>∃ i:Nat,i+g=s.size∧wx.heap[w'.heap.size]? = some (.stringIter s i)∧Below w'.heap.size w' wx∧Lib.NoAny s.data.toList cs.data.toList i)
 case atStart=>exact ⟨0,by omega,World.alloc_heap_new w' _,(Below.refl _ _).alloc (Nat.le_refl _) _,Lib.NoAny.zero _ _⟩
 case round =>
  obtain ⟨i,hig,hk,hbel,hno⟩:=hrel
  have HN:Hid (Lib.NoAny s.data.toList cs.data.toList i):=hno
  have HK:Hid (wr.heap[w'.heap.size]? = some (.stringIter s i)):=hk
  clear hno
  cases gk with
  | zero =>
   obtain rfl:i=s.size:=by omega
   have hnx:=fun ty=>Go.Lib.run_next_end_at (P:=Tryz.prog) wr w'.heap.size s s.size ty hk (by omega)
   clear hk
   go_wp2
   go_ret
   exact ⟨by rw [Lib.indexAny_none (by rw [← Lib.size_eq];exact HN.out)];rfl,hbel⟩
  | succ g =>
   have hi:i<s.size:=by omega
   obtain ⟨x,hx⟩:∃ x:UInt8,s[i]'hi=x:=⟨_,rfl⟩
   have hxl:s.data.toList[i]? = some x:=by rw [← hx];exact Lib.data_getElem? s i hi
   have Hx:Hid (s.data.toList[i]? = some x):=hxl
   clear hxl
   by_cases h128:x.toNat<128
   ·have hnx:=fun ty=>Go.Lib.run_next_ascii_at (P:=Tryz.prog) wr w'.heap.size s i ty hk hi (by rw [hx];exact h128)
    rw [hx] at hnx
    have hb2:=below_iterAt hbel (Nat.le_refl _) s (i+1)
    have hk2:=Go.Lib.iterAt_heap wr w'.heap.size s i (i+1) hk
    have HK2:=(show Hid _ from hk2)
    clear hk hk2
    generalize wr.iterAt w'.heap.size s (i+1)=wy at *
    have hcon:=Lib.contains_iff_indexByte cs.data.toList x
    have hback:((x.toNat:Int)).toNat.toUInt8=x:=by simp
    cases hin:cs.data.toList.contains x
    ·rw [hin] at hcon
     have hlt:¬ ((0:Int)≤Lib.indexByte cs.data.toList x):=of_decide_eq_false hcon.symm
     clear hcon
     go_wp2_with fail
     refine (iruneA _ _ _ (by omega) (by omega)).mono ?_
     rintro e w2 ⟨rfl,rfl⟩
     rw [hback]
     go_wp2
     go_roundg g
     case measure=>omega
     case rel=>exact ⟨i+1,by omega,HK2.out,hb2,HN.out.succ Hx.out hin⟩
    ·rw [hin] at hcon
     have hge:(0:Int)≤Lib.indexByte cs.data.toList x:=of_decide_eq_true hcon.symm
     clear hcon
     go_wp2_with fail
     refine (iruneA _ _ _ (by omega) (by omega)).mono ?_
     rintro e w2 ⟨rfl,rfl⟩
     rw [hback]
     go_wp2
     go_ret
     exact ⟨by rw [Lib.indexAny_hit HN.out Hx.out hin];rfl,hb2⟩
   ·have h129:128≤(s[i]'hi).toNat:=by rw [hx];omega
    have hnx:=fun ty=>Go.Lib.run_next_any_at (P:=Tryz.prog) wr w'.heap.size s i ty hk hi
    obtain ⟨d1,d2⟩:=decode_high s i hi h129
    obtain ⟨d3,d4⟩:=decode_cont s i hi h129
    have hno2:Hid (Lib.NoAny s.data.toList cs.data.toList (i+(Utf8.decode s i).2)):=noAny_run HN.out fun k hk=>by
     have hlt:i+k<s.size:=by omega
     have:=d4 k hk
     rw [get_in s (i+k) hlt] at this
     exact ⟨_,Lib.data_getElem? s (i+k) hlt,HCL.out _ this⟩
    clear d4
    generalize (Utf8.decode s i).1=rr at *
    generalize (Utf8.decode s i).2=d at *
    have hb2:=below_iterAt hbel (Nat.le_refl _) s (i+d)
    have hk2:=Go.Lib.iterAt_heap wr w'.heap.size s i (i+d) hk
    have HK2:=(show Hid _ from hk2)
    have hlt2:w'.heap.size<(wr.iterAt w'.heap.size s (i+d)).heap.size:=(Array.getElem?_eq_some_iff.1 hk2).1
    clear hk hk2
    generalize wr.iterAt w'.heap.size s (i+d)=wy at *
    go_wp2_with fail
    refine (irune2 cs h2 HC.out (rr:Int) _ (by omega)).mono ?_
    rintro e w2 ⟨rfl,hb3⟩
    have hk3:=(hb3.block _ hlt2).trans HK2.out
    have HK3:=(show Hid _ from hk3)
    have hb4:=hb2.trans (hb3.mono (Nat.le_of_lt hlt2))
    clear hk3 hb3
    go_wp2
    go_roundg (s.size-(i+d))
    case measure=>omega
    case rel=>exact ⟨i+d,by omega,HK3.out,hb4,hno2.out⟩
theorem ianyB (s cs:ByteArray) (w:World) (h2:cs.size=2) (hs:s.size<4294967281) (hc:∀ (i:Nat) (h:i<cs.size),(cs[i]'h).toNat<128) :
  Calls Tryz.prog 147 #[.string s,.string cs] w fun e w'=>e = .returned (.int .i64 (Lib.indexAny s.data.toList cs.data.toList))∧Below w.heap.size w w':=by
 by_cases h8:s.size≤8
 ·exact ianyZ s cs w h2 h8 hc
 ·have hac:∀ (j:Nat) b,cs.data.toList[j]? = some b→b.toNat<128:=fun j b hb=>by
   obtain ⟨hj,e⟩:=List.getElem?_eq_some_iff.1 hb
   have hj':j<cs.size:=by rw [← sizeL];exact hj
   have:=hc j hj'
   rw [show cs[j]'hj'=b by rw [← e];rfl] at this
   exact this
  refine (Any.strings_IndexAny_long Tryz.lays153 (zero_of_info (v:=.agg (Array.replicate 256 (.bool false))) (n:=256) (by kernel_rfl)).1 (zero_of_info (v:=.agg (Array.replicate 256 (.bool false))) (n:=256) (by kernel_rfl)).2 s cs w (by omega) (by omega) hs (by omega) hac).mono fun e w' ⟨h1,h2⟩=>⟨h1,?_⟩
  rw [h2]
  exact ((Below.refl _ _).alloc (Nat.le_refl _) _).alloc (by simp) _
end Go.Proofs.YtgdilnljjgdinaaGreatDoor
namespace Go.Proofs.YtgdilnljjgdinaaGreatDoor
open Go.RowKit Go.Shelf
set_option maxHeartbeats 4000000 in
theorem canyB (s cs:ByteArray) (w:World) (h2:cs.size=2) (hs:s.size<4294967281) (hc:∀ (i:Nat) (h:i<cs.size),(cs[i]'h).toNat<128) :
  Calls Tryz.prog 132 #[.string s,.string cs] w fun e w'=>e = .returned (.bool (decide (0≤Lib.indexAny s.data.toList cs.data.toList)))∧Below w.heap.size w w':=by
 go_enter Tryz.func132,Tryz.ntmps132
 go_wp2_with fail
 refine (ianyB s cs _ h2 hs hc).mono ?_
 rintro e w1 ⟨rfl,hx⟩
 go_wp2
 go_ret
 exact ⟨rfl,hx⟩
theorem ascE:∀ (i:Nat) (h:i<(⟨#[101,69]⟩:ByteArray).size),((⟨#[101,69]⟩:ByteArray)[i]'h).toNat<128:=fun i h=>by
 have h':i<2:=h
 rcases (by omega:i=0∨i=1) with rfl|rfl
 ·show (101:UInt8).toNat<128;decide
 ·show (69:UInt8).toNat<128;decide
theorem ascS:∀ (i:Nat) (h:i<(⟨#[43,45]⟩:ByteArray).size),((⟨#[43,45]⟩:ByteArray)[i]'h).toNat<128:=fun i h=>by
 have h':i<2:=h
 rcases (by omega:i=0∨i=1) with rfl|rfl
 ·show (43:UInt8).toNat<128;decide
 ·show (45:UInt8).toNat<128;decide
set_option maxHeartbeats 4000000 in
theorem cutE_none (s:ByteArray) (hs:s.size≤100000000) (hn:Lib.indexAny s.data.toList [101,69] = -1) (w:World) :
  Calls Tryz.prog 131 #[.string s] w fun e w'=>e = .returned (.tuple #[.string s,.string ⟨#[48]⟩])∧Below w.heap.size w w':=by
 have HN:Hid (Lib.indexAny s.data.toList (⟨#[101,69]⟩:ByteArray).data.toList = -1):=hn
 clear hn
 go_enter Tryz.func131,Tryz.ntmps131
 go_wp2_with fail
 refine (ianyB _ _ _ rfl (by omega) ascE).mono ?_
 rw [HN.out]
 rintro e w1 ⟨rfl,hx⟩
 go_wp2
 go_ret2
 exact ⟨rfl,hx⟩
set_option maxHeartbeats 4000000 in
theorem cutE_at (s:ByteArray) (k:Nat) (hks:k<s.size) (hs:s.size≤100000000) (hn:Lib.indexAny s.data.toList [101,69]=(k:Int)) (w:World) :
  Calls Tryz.prog 131 #[.string s] w fun e w'=>e = .returned (.tuple #[.string (s.extract 0 k),.string (s.extract (k+1) s.size)])∧Below w.heap.size w w':=by
 have HN:Hid (Lib.indexAny s.data.toList (⟨#[101,69]⟩:ByteArray).data.toList=(k:Int)):=hn
 clear hn
 have hk1:(0:Int)≤(k:Int):=by omega
 have hk0:¬ (k:Int)<0:=by omega
 have hk2:(k:Int)≤(s.size:Int):=by omega
 have hk3:(k:Int)+1≤(s.size:Int):=by omega
 have hw1:IntKind.i64.wrap ((k:Int)+1)=(k:Int)+1:=by rw [IntKind.wrap_i64];omega
 go_enter Tryz.func131,Tryz.ntmps131
 go_wp2_with fail
 refine (ianyB _ _ _ rfl (by omega) ascE).mono ?_
 rw [HN.out]
 rintro e w1 ⟨rfl,hx⟩
 go_wp2
 go_region
 go_wp2
 go_ret2
 exact ⟨by simp,hx.drew⟩
set_option maxRecDepth 100000 in
theorem idxO47 (w:World):Calls Tryz.prog 106 #[.string ⟨#[47]⟩,.string ⟨#[47]⟩] w fun e w'=>e = .returned (.int .i64 0)∧w'=w:=by
 go_enter Tryz.func106,Tryz.ntmps106
 go_wp2
 go_ret
 exact ⟨rfl,rfl⟩
theorem idxA47 (s:ByteArray) (t:Int) (w:World) (ht:Lib.indexByte s.data.toList 47=t):Calls Tryz.prog 106 #[.string s,.string ⟨#[47]⟩] w fun e w'=>e = .returned (.int .i64 t)∧w'=w:=by
 cases hne:([47] == s.toList)
 ·exact idx47 s t w hne ht
 ·have e:s=⟨#[47]⟩:=by
   have:=eq_of_beq hne
   rw [ByteArray.toList_eq] at this
   apply ByteArray.ext
   rw [← Array.toList_inj]
   exact this.symm
  subst e
  obtain rfl:0=t:=ht
  exact idxO47 w
set_option maxHeartbeats 4000000 in
theorem cutA47 (s:ByteArray) (k:Nat) (w:World) (hk:Lib.indexByte s.data.toList 47=(k:Int)) (hs:s.size≤100000000) (hks:k<s.size):Calls Tryz.prog 49 #[.string s,.string ⟨#[47]⟩] w fun e w'=>e = .returned (.tuple #[.string (s.extract 0 k),.string (s.extract (k+1) s.size),.bool true])∧Below w.heap.size w w':=by
 have kk:Calls Tryz.prog 81 #[.string s,.string ⟨#[47]⟩] w fun e w'=>e = .returned (.tuple #[.string (s.extract 0 k),.string (s.extract (k+1) s.size),.bool true])∧Below w.heap.size w w':=by
  have hk1:(0:Int)≤(k:Int):=by omega
  have hk2:(k:Int)≤(s.size:Int):=by omega
  have hk3:(k:Int)+1≤(s.size:Int):=by omega
  have hw1:IntKind.i64.wrap ((k:Int)+1)=(k:Int)+1:=by rw [IntKind.wrap_i64];omega
  go_enter Tryz.func81,Tryz.ntmps81
  go_wp2_with fail
  refine (idxA47 s k _ hk).mono ?_
  rintro e w' ⟨rfl,rfl⟩
  clear hk
  go_wp2
  go_region
  go_wp2
  go_ret3
  exact ⟨by simp,(Below.refl _ _).drew⟩
 go_enter Tryz.func49,Tryz.ntmps49
 go_wp2_with fail
 refine kk.mono ?_
 rintro e w' ⟨rfl,hx⟩
 go_wp2
 go_ret3
 exact ⟨rfl,hx⟩
set_option maxRecDepth 100000 in
theorem idxO46 (w:World):Calls Tryz.prog 106 #[.string ⟨#[46]⟩,.string ⟨#[46]⟩] w fun e w'=>e = .returned (.int .i64 0)∧w'=w:=by
 go_enter Tryz.func106,Tryz.ntmps106
 go_wp2
 go_ret
 exact ⟨rfl,rfl⟩
theorem idxA46 (s:ByteArray) (t:Int) (w:World) (ht:Lib.indexByte s.data.toList 46=t):Calls Tryz.prog 106 #[.string s,.string ⟨#[46]⟩] w fun e w'=>e = .returned (.int .i64 t)∧w'=w:=by
 cases hne:([46] == s.toList)
 ·exact idx46 s t w hne ht
 ·have e:s=⟨#[46]⟩:=by
   have:=eq_of_beq hne
   rw [ByteArray.toList_eq] at this
   apply ByteArray.ext
   rw [← Array.toList_inj]
   exact this.symm
  subst e
  obtain rfl:0=t:=ht
  exact idxO46 w
set_option maxHeartbeats 4000000 in
theorem cutA46 (s:ByteArray) (k:Nat) (w:World) (hk:Lib.indexByte s.data.toList 46=(k:Int)) (hs:s.size≤100000000) (hks:k<s.size):Calls Tryz.prog 49 #[.string s,.string ⟨#[46]⟩] w fun e w'=>e = .returned (.tuple #[.string (s.extract 0 k),.string (s.extract (k+1) s.size),.bool true])∧Below w.heap.size w w':=by
 have kk:Calls Tryz.prog 81 #[.string s,.string ⟨#[46]⟩] w fun e w'=>e = .returned (.tuple #[.string (s.extract 0 k),.string (s.extract (k+1) s.size),.bool true])∧Below w.heap.size w w':=by
  have hk1:(0:Int)≤(k:Int):=by omega
  have hk2:(k:Int)≤(s.size:Int):=by omega
  have hk3:(k:Int)+1≤(s.size:Int):=by omega
  have hw1:IntKind.i64.wrap ((k:Int)+1)=(k:Int)+1:=by rw [IntKind.wrap_i64];omega
  go_enter Tryz.func81,Tryz.ntmps81
  go_wp2_with fail
  refine (idxA46 s k _ hk).mono ?_
  rintro e w' ⟨rfl,rfl⟩
  clear hk
  go_wp2
  go_region
  go_wp2
  go_ret3
  exact ⟨by simp,(Below.refl _ _).drew⟩
 go_enter Tryz.func49,Tryz.ntmps49
 go_wp2_with fail
 refine kk.mono ?_
 rintro e w' ⟨rfl,hx⟩
 go_wp2
 go_ret3
 exact ⟨rfl,hx⟩
theorem parseXM (ex:ByteArray) (v:Int) (S:Nat) (w:World) {ev:Value} (E:Errs w 12 ev) (hP:∀ w,Calls Tryz.prog 128 #[.string ex] w fun e w'=>∃ v',e = .returned (.tuple #[v',.nilIface])∧GI w' w.heap.size v' v S∧Below w.heap.size w w') (hS:S≤100000000) (h1:v < -9999) :
  Calls Tryz.prog 133 #[.string ex] w fun e w'=>e = .returned (.tuple #[.int .i64 0,ev])∧Below w.heap.size w w':=by
 go_enter Tryz.func133,Tryz.ntmps133
 go_wp2_with fail
 refine (hP _).mono ?_
 rintro e w1 ⟨v',rfl,G,hx⟩
 obtain ⟨f,c,n,k,rfl⟩:=G.form
 obtain ⟨e1,K⟩:=G.parts
 have e2:ws f (v.natAbs:Int)=v:=by
  rw [e1];unfold ws;split <;> rename_i h <;> simp at h <;> omega
 clear e1 G
 obtain ⟨V,hv,hsv⟩:=box1 w1 (.bool f) (.slice c n k) 42
 replace K:=K.below hv
 replace hx:=bel_tr hx hv
 clear hv hsv hP
 obtain ⟨v0,v1,v2,v3⟩:=id V
 go_wp2_with fail
 generalize w1.alloc (.cells #[.bool f,.slice c n k] 42)=w2 at *
 refine (int64I f _ K.num (by omega)).mono ?_
 rw [e2]
 rintro e w3 ⟨rfl,h3⟩
 have hw:=bel_tr hx h3
 replace E:=E.below hw
 obtain ⟨E1,p,rfl⟩:=id E
 clear V v0 v1 v2 v3 K h3 hx e2
 by_cases hf:-9223372036854775808≤v
 ·rw [show wordI v=v from if_pos (by omega),show fitI v=true from decide_eq_true (by omega)]
  have hnf:v < -9999:=h1
  go_wp2
  go_quiet (fail)
  go_wp2
  go_ret2
  exact ⟨rfl,belN hw nq⟩
 ·rw [show wordI v=0 from if_neg (by omega),show fitI v=false from decide_eq_false (by omega)]
  go_wp2
  go_quiet (fail)
  go_wp2
  go_ret2
  exact ⟨rfl,belN hw nq⟩
theorem parseXN (ex:ByteArray) (w:World) {ev:Value} (E:Errs w 11 ev) (hs:ex.size≤100000000) (hd:¬ (Digs (cutS ex).2 (cutS ex).2.size∧0<(cutS ex).2.size)) :
  Calls Tryz.prog 133 #[.string ex] w fun e w'=>e = .returned (.tuple #[.int .i64 0,ev])∧Below w.heap.size w w':=by
 go_enter Tryz.func133,Tryz.ntmps133
 go_wp2_with fail
 refine (parseN ex _ ev hs hd E).mono ?_
 rintro e w1 ⟨rfl,hx⟩
 obtain ⟨V,hv,hsv⟩:=box1 w1 (.bool false) (.slice none 0 0) 42
 replace hx:=bel_tr hx hv
 obtain ⟨p,rfl⟩:=E.2
 clear hv hsv E
 go_wp2
 go_ret2
 exact ⟨rfl,hx⟩
end Go.Proofs.YtgdilnljjgdinaaGreatDoor
namespace Go.Proofs.YtgdilnljjgdinaaGreatDoor
open Go.RowKit Go.Shelf
set_option maxRecDepth 100000 in
set_option maxHeartbeats 4000000 in
theorem decN1 {s dg ex ah be:ByteArray} (w:World) {ev:Value} (E:Errs w 11 ev) (hE:CutsE s dg ex) (hC:CutsP dg ah be) (hN:∀ w,Calls Tryz.prog 132 #[.string be,.string ⟨#[43,45]⟩] w fun e w'=>e = .returned (.bool true)∧Below w.heap.size w w') :
  Calls Tryz.prog 121 #[.string s] w fun e w'=>e = .returned (.tuple #[.agg #[.bool false,.slice none 0 0,.slice none 0 0],ev])∧Below w.heap.size w w':=by
 have hgl:11<w.heap.size:=World.block_lt_of_cell? _ _ E.1
 have hgn:¬ w.heap.size=11:=by omega
 have hgm:¬ 11=w.heap.size:=by omega
 have R0:=var3_new w (.bool false) (.slice none 0 0) (.slice none 0 0) 44
 have hb0:=bel_d0 w (.cells #[.bool false,.slice none 0 0,.slice none 0 0] 44)
 have hsz:w.heap.size+1≤(w.alloc (.cells #[.bool false,.slice none 0 0,.slice none 0 0] 44)).heap.size:=by simp
 replace E:=E.below hb0
 go_enter Tryz.func121,Tryz.ntmps121
 go_wp2_with fail
 generalize w.alloc (.cells #[.bool false,.slice none 0 0,.slice none 0 0] 44)=W0 at *
 refine (hE _).mono ?_
 rintro e w1 ⟨rfl,hx⟩
 replace E:=E.below hx
 replace R0:=R0.below hx
 replace hb0:=bel_tr hb0 hx
 replace hsz:=Nat.le_trans hsz (Below.size hx)
 clear hx hE
 go_wp2_with fail
 refine (hC _).mono ?_
 rintro e w2 ⟨b,rfl,hx⟩
 replace E:=E.below hx
 replace R0:=R0.below hx
 replace hb0:=bel_tr hb0 hx
 replace hsz:=Nat.le_trans hsz (Below.size hx)
 clear hx hC
 go_wp2_with fail
 refine (hN _).mono ?_
 rintro e w3 ⟨rfl,hx⟩
 replace E:=E.below hx
 replace R0:=R0.below hx
 replace hb0:=bel_tr hb0 hx
 replace hsz:=Nat.le_trans hsz (Below.size hx)
 clear hx hN
 obtain ⟨r0c0,r0c1,r0c2,r0c3,r0c4,r0c5⟩:=id R0
 obtain ⟨V,O⟩:=R0.set (.bool false) (.slice none 0 0) (.slice none 0 0)
 have hw:=hb0.trans (O.below (B:=w.heap.size) (by omega))
 have E0:=E
 obtain ⟨ec,p,rfl⟩:=E0
 clear R0 O hb0 E
 go_wp2_with fail
 go_region
 have V':=V.below (bel_d1 _)
 go_wp2
 refine bodyPost_ret (v:=.tuple #[.agg #[.bool false,.slice none 0 0,.slice none 0 0],.iface 249 (.pointer (some p))]) (by simp [results,Tryz.results121,go_sem,V'.c0,V'.c1,V'.c2]) rfl ⟨rfl,belN hw 1⟩
set_option maxRecDepth 100000 in
set_option maxHeartbeats 4000000 in
theorem decN2 {s dg ex ah be:ByteArray} (w:World) {ev:Value} (E:Errs w 11 ev) (hE:CutsE s dg ex) (hC:CutsP dg ah be) (hN:NoSign be) (hP:∀ w,Errs w 11 ev→Calls Tryz.prog 128 #[.string (ah++be)] w fun e w'=>e = .returned (.tuple #[.agg #[.bool false,.slice none 0 0],ev])∧Below w.heap.size w w') (hah:ah.size≤2000000) (hb9:be.size≤2000000) :
  Calls Tryz.prog 121 #[.string s] w fun e w'=>e = .returned (.tuple #[.agg #[.bool false,.slice none 0 0,.slice none 0 0],ev])∧Below w.heap.size w w':=by
 have R0:=var3_new w (.bool false) (.slice none 0 0) (.slice none 0 0) 44
 have hb0:=bel_d0 w (.cells #[.bool false,.slice none 0 0,.slice none 0 0] 44)
 have hsz:w.heap.size+1≤(w.alloc (.cells #[.bool false,.slice none 0 0,.slice none 0 0] 44)).heap.size:=by simp
 replace E:=E.below hb0
 go_enter Tryz.func121,Tryz.ntmps121
 go_wp2_with fail
 generalize w.alloc (.cells #[.bool false,.slice none 0 0,.slice none 0 0] 44)=W0 at *
 refine (hE _).mono ?_
 rintro e w1 ⟨rfl,hx⟩
 replace E:=E.below hx
 replace R0:=R0.below hx
 replace hb0:=bel_tr hb0 hx
 replace hsz:=Nat.le_trans hsz (Below.size hx)
 clear hx hE
 go_wp2_with fail
 refine (hC _).mono ?_
 rintro e w2 ⟨b,rfl,hx⟩
 replace E:=E.below hx
 replace R0:=R0.below hx
 replace hb0:=bel_tr hb0 hx
 replace hsz:=Nat.le_trans hsz (Below.size hx)
 clear hx hC
 go_wp2_with fail
 refine (hN _).mono ?_
 rintro e w3 ⟨rfl,hx⟩
 replace E:=E.below hx
 replace R0:=R0.below hx
 replace hb0:=bel_tr hb0 hx
 replace hsz:=Nat.le_trans hsz (Below.size hx)
 clear hx hN
 go_wp2_with fail
 refine (hP _ E).mono ?_
 rintro e w4 ⟨rfl,hx⟩
 replace E:=E.below hx
 replace R0:=R0.below hx
 replace hb0:=bel_tr hb0 hx
 replace hsz:=Nat.le_trans hsz (Below.size hx)
 clear hx hP
 have hx:=bel_d0 w4 (.cells #[.bool false,.slice none 0 0] 42)
 replace E:=E.below hx
 replace R0:=R0.below hx
 replace hb0:=bel_tr hb0 hx
 replace hsz:=Nat.le_trans hsz (Below.size hx)
 clear hx
 obtain ⟨r0c0,r0c1,r0c2,r0c3,r0c4,r0c5⟩:=id R0
 obtain ⟨V,O⟩:=R0.set (.bool false) (.slice none 0 0) (.slice none 0 0)
 have hw:=hb0.trans (O.below (B:=w.heap.size) (by omega))
 have E0:=E
 obtain ⟨ec,p,rfl⟩:=E0
 clear R0 O hb0 E
 go_wp2
 refine bodyPost_ret (v:=.tuple #[.agg #[.bool false,.slice none 0 0,.slice none 0 0],.iface 249 (.pointer (some p))]) (by simp [results,Tryz.results121,go_sem,V.c0,V.c1,V.c2]) rfl ⟨rfl,hw⟩
set_option maxRecDepth 100000 in
set_option maxHeartbeats 4000000 in
theorem decX3 {s dg ex ah be:ByteArray} {x:Int} {S:Nat} (w:World) (hE:CutsE s dg ex) (hC:CutsP dg ah be) (hN:NoSign be) (hP:ParsesI (ah++be) x S) {ev:Value} {gE:Nat} (E:Errs w gE ev) (hX:∀ w,Errs w gE ev→Calls Tryz.prog 133 #[.string ex] w fun e w'=>e = .returned (.tuple #[.int .i64 0,ev])∧Below w.heap.size w w') (hah:ah.size≤2000000) (hb9:be.size≤2000000) :
  Calls Tryz.prog 121 #[.string s] w fun e w'=>e = .returned (.tuple #[.agg #[.bool false,.slice none 0 0,.slice none 0 0],ev])∧Below w.heap.size w w':=by
 have R0:=var3_new w (.bool false) (.slice none 0 0) (.slice none 0 0) 44
 have hb0:=bel_d0 w (.cells #[.bool false,.slice none 0 0,.slice none 0 0] 44)
 have hsz:w.heap.size+1≤(w.alloc (.cells #[.bool false,.slice none 0 0,.slice none 0 0] 44)).heap.size:=by simp
 replace E:=E.below hb0
 go_enter Tryz.func121,Tryz.ntmps121
 go_wp2_with fail
 generalize w.alloc (.cells #[.bool false,.slice none 0 0,.slice none 0 0] 44)=W0 at *
 refine (hE _).mono ?_
 rintro e w1 ⟨rfl,hx⟩
 replace E:=E.below hx
 replace R0:=R0.below hx
 replace hb0:=bel_tr hb0 hx
 replace hsz:=Nat.le_trans hsz (Below.size hx)
 clear hx hE
 go_wp2_with fail
 refine (hC _).mono ?_
 rintro e w2 ⟨b,rfl,hx⟩
 replace E:=E.below hx
 replace R0:=R0.below hx
 replace hb0:=bel_tr hb0 hx
 replace hsz:=Nat.le_trans hsz (Below.size hx)
 clear hx hC
 go_wp2_with fail
 refine (hN _).mono ?_
 rintro e w3 ⟨rfl,hx⟩
 replace E:=E.below hx
 replace R0:=R0.below hx
 replace hb0:=bel_tr hb0 hx
 replace hsz:=Nat.le_trans hsz (Below.size hx)
 clear hx hN
 go_wp2_with fail
 refine (hP _).mono ?_
 rintro e w4 ⟨v4,rfl,K0,hx⟩
 obtain ⟨f1,c1,n1,k1,rfl⟩:=K0.form
 replace K0:=K0.mono (B':=w.heap.size+1) hsz
 replace E:=E.below hx
 replace R0:=R0.below hx
 replace hb0:=bel_tr hb0 hx
 replace hsz:=Nat.le_trans hsz (Below.size hx)
 clear hx hP
 have hszN:=hsz
 have hx:=bel_d0 w4 (.cells #[.bool f1,.slice c1 n1 k1] 42)
 replace E:=E.below hx
 replace K0:=K0.below hx
 replace R0:=R0.below hx
 replace hb0:=bel_tr hb0 hx
 replace hsz:=Nat.le_trans hsz (Below.size hx)
 have Vn:=var2_new w4 (.bool f1) (.slice c1 n1 k1) 42
 clear hx
 go_wp2_with fail
 generalize w4.alloc (.cells #[.bool f1,.slice c1 n1 k1] 42)=w5 at *
 refine (hX _ E).mono ?_
 rintro e w6 ⟨rfl,hx⟩
 replace E:=E.below hx
 replace R0:=R0.below hx
 replace hb0:=bel_tr hb0 hx
 replace hsz:=Nat.le_trans hsz (Below.size hx)
 clear hx hX K0 Vn
 obtain ⟨r0c0,r0c1,r0c2,r0c3,r0c4,r0c5⟩:=id R0
 obtain ⟨V,O⟩:=R0.set (.bool false) (.slice none 0 0) (.slice none 0 0)
 have hw:=hb0.trans (O.below (B:=w.heap.size) (by omega))
 obtain ⟨p,rfl⟩:=E.2
 clear R0 O hb0 E
 go_wp2
 refine bodyPost_ret (v:=.tuple #[.agg #[.bool false,.slice none 0 0,.slice none 0 0],_]) (by simp [results,Tryz.results121,go_sem,V.c0,V.c1,V.c2]) rfl ⟨rfl,hw⟩
set_option maxRecDepth 100000 in
set_option maxHeartbeats 4000000 in
theorem quoN1 {a b:ByteArray} (w:World) {ev:Value} (E:Errs w 11 ev) (ha:a.size≤100000000) (hd:¬ (Digs (cutS a).2 (cutS a).2.size∧0<(cutS a).2.size)) :
  Calls Tryz.prog 120 #[.string a,.string b] w fun e w'=>e = .returned (.tuple #[.agg #[.bool false,.slice none 0 0,.slice none 0 0],ev])∧Below w.heap.size w w':=by
 have R0:=var3_new w (.bool false) (.slice none 0 0) (.slice none 0 0) 44
 have hb0:=bel_d0 w (.cells #[.bool false,.slice none 0 0,.slice none 0 0] 44)
 have hsz:w.heap.size+1≤(w.alloc (.cells #[.bool false,.slice none 0 0,.slice none 0 0] 44)).heap.size:=by simp
 replace E:=E.below hb0
 go_enter Tryz.func120,Tryz.ntmps120
 go_wp2_with fail
 generalize w.alloc (.cells #[.bool false,.slice none 0 0,.slice none 0 0] 44)=W0 at *
 refine (parseN a _ ev ha hd E).mono ?_
 rintro e w1 ⟨rfl,hx⟩
 replace E:=E.below hx
 replace R0:=R0.below hx
 replace hb0:=bel_tr hb0 hx
 replace hsz:=Nat.le_trans hsz (Below.size hx)
 clear hx hd
 have hx:=bel_d0 w1 (.cells #[.bool false,.slice none 0 0] 42)
 replace E:=E.below hx
 replace R0:=R0.below hx
 replace hb0:=bel_tr hb0 hx
 replace hsz:=Nat.le_trans hsz (Below.size hx)
 clear hx
 obtain ⟨r0c0,r0c1,r0c2,r0c3,r0c4,r0c5⟩:=id R0
 obtain ⟨V,O⟩:=R0.set (.bool false) (.slice none 0 0) (.slice none 0 0)
 have hw:=hb0.trans (O.below (B:=w.heap.size) (by omega))
 have E0:=E
 obtain ⟨ec,p,rfl⟩:=E0
 clear R0 O hb0 E
 go_wp2
 refine bodyPost_ret (v:=.tuple #[.agg #[.bool false,.slice none 0 0,.slice none 0 0],.iface 249 (.pointer (some p))]) (by simp [results,Tryz.results120,go_sem,V.c0,V.c1,V.c2]) rfl ⟨rfl,hw⟩
set_option maxRecDepth 100000 in
set_option maxHeartbeats 4000000 in
theorem quoN2 {a b:ByteArray} (w:World) {ev:Value} (E:Errs w 11 ev) (ha:a.size≤100000000) (hb:b.size≤100000000) (hd:Digs (cutS a).2 (cutS a).2.size) (h0:0<(cutS a).2.size) (hn:¬ (Digs b b.size∧0<b.size)) :
  Calls Tryz.prog 120 #[.string a,.string b] w fun e w'=>e = .returned (.tuple #[.agg #[.bool false,.slice none 0 0,.slice none 0 0],ev])∧Below w.heap.size w w':=by
 have R0:=var3_new w (.bool false) (.slice none 0 0) (.slice none 0 0) 44
 have hb0:=bel_d0 w (.cells #[.bool false,.slice none 0 0,.slice none 0 0] 44)
 have hsz:w.heap.size+1≤(w.alloc (.cells #[.bool false,.slice none 0 0,.slice none 0 0] 44)).heap.size:=by simp
 replace E:=E.below hb0
 go_enter Tryz.func120,Tryz.ntmps120
 go_wp2_with fail
 generalize w.alloc (.cells #[.bool false,.slice none 0 0,.slice none 0 0] 44)=W0 at *
 refine (parseI a _ ha hd h0).mono ?_
 rintro e w1 ⟨v1,rfl,K1,hx⟩
 obtain ⟨f1,c1,n1,k1,rfl⟩:=K1.form
 replace K1:=K1.mono (B':=w.heap.size+1) hsz
 replace E:=E.below hx
 replace R0:=R0.below hx
 replace hb0:=bel_tr hb0 hx
 replace hsz:=Nat.le_trans hsz (Below.size hx)
 clear hx hd h0
 have hx:=bel_d0 w1 (.cells #[.bool f1,.slice c1 n1 k1] 42)
 replace E:=E.below hx
 replace R0:=R0.below hx
 replace hb0:=bel_tr hb0 hx
 replace hsz:=Nat.le_trans hsz (Below.size hx)
 clear hx
 go_wp2_with fail
 generalize w1.alloc (.cells #[.bool f1,.slice c1 n1 k1] 42)=w2 at *
 refine (parse_no b _ ev hb hn E).mono ?_
 rintro e w3 ⟨rfl,hx⟩
 replace E:=E.below hx
 replace R0:=R0.below hx
 replace hb0:=bel_tr hb0 hx
 replace hsz:=Nat.le_trans hsz (Below.size hx)
 clear hx hn
 clear K1
 obtain ⟨r0c0,r0c1,r0c2,r0c3,r0c4,r0c5⟩:=id R0
 obtain ⟨V,O⟩:=R0.set (.bool false) (.slice none 0 0) (.slice none 0 0)
 have hw:=hb0.trans (O.below (B:=w.heap.size) (by omega))
 have E0:=E
 obtain ⟨ec,p,rfl⟩:=E0
 clear R0 O hb0 E
 go_wp2
 refine bodyPost_ret (v:=.tuple #[.agg #[.bool false,.slice none 0 0,.slice none 0 0],.iface 249 (.pointer (some p))]) (by simp [results,Tryz.results120,go_sem,V.c0,V.c1,V.c2]) rfl ⟨rfl,hw⟩
set_option maxHeartbeats 4000000 in
theorem quoOk {a b:ByteArray} {S:Nat} (w:World) (ha:a.size≤100000000) (hb:b.size≤100000000) (hd:Digs (cutS a).2 (cutS a).2.size) (h0:0<(cutS a).2.size) (hdb:Digs b b.size) (h0b:0<b.size) (hv:rdF b 0 b.size≠0) (hSa:a.size≤S) (hSb:b.size≤S) (hS:S≤7000000) (hT:TB w) :
  Calls Tryz.prog 120 #[.string a,.string b] w fun e w'=>∃ f c n k c' n' k',e = .returned (.tuple #[.agg #[.bool f,.slice c n k,.slice c' n' k'],.nilIface])∧GR w' w.heap.size f c n k c' n' k' (Rat.divInt (ws (cutS a).1 (rdF (cutS a).2 0 (cutS a).2.size)) (rdF b 0 b.size)) S∧Below w.heap.size w w':=by
 have R0:=var3_new w (.bool false) (.slice none 0 0) (.slice none 0 0) 44
 have hb0:=bel_d0 w (.cells #[.bool false,.slice none 0 0,.slice none 0 0] 44)
 have hsz:w.heap.size+1≤(w.alloc (.cells #[.bool false,.slice none 0 0,.slice none 0 0] 44)).heap.size:=by simp
 replace hT:=hT.below hb0
 go_enter Tryz.func120,Tryz.ntmps120
 go_wp2_with fail
 generalize w.alloc (.cells #[.bool false,.slice none 0 0,.slice none 0 0] 44)=W0 at *
 have hcz:=cutS_size a
 refine (parseI a _ ha hd h0).mono ?_
 rintro e w1 ⟨v1,rfl,K1,hx⟩
 obtain ⟨f1,c1,n1,k1,rfl⟩:=K1.form
 replace K1:=K1.mono (B':=w.heap.size+1) hsz
 replace hT:=hT.below hx
 replace R0:=R0.below hx
 replace hb0:=bel_tr hb0 hx
 replace hsz:=Nat.le_trans hsz (Below.size hx)
 clear hx
 replace K1:=K1.le (S':=S) (by omega)
 clear hd h0 hcz
 have hx:=bel_d0 w1 (.cells #[.bool f1,.slice c1 n1 k1] 42)
 replace hT:=hT.below hx
 replace K1:=K1.below hx
 replace R0:=R0.below hx
 replace hb0:=bel_tr hb0 hx
 replace hsz:=Nat.le_trans hsz (Below.size hx)
 have Vn:=var2_new w1 (.bool f1) (.slice c1 n1 k1) 42
 clear hx
 go_wp2_with fail
 generalize w1.alloc (.cells #[.bool f1,.slice c1 n1 k1] 42)=w2 at *
 refine (parse_yes b _ hb hdb h0b).mono ?_
 rintro e w3 ⟨c2,n2,k2,rfl,G2,hx⟩
 replace G2:=G2.mono (B':=w.heap.size+1) hsz
 replace hT:=hT.below hx
 replace K1:=K1.below hx
 replace R0:=R0.below hx
 replace Vn:=Vn.below hx
 replace hb0:=bel_tr hb0 hx
 replace hsz:=Nat.le_trans hsz (Below.size hx)
 clear hx
 replace G2:=G2.le (S':=S) (by omega)
 clear hdb h0b
 obtain ⟨vnc0,vnc1,vnc2,vnc3⟩:=id Vn
 go_wp2_with fail
 refine (makeQ _ K1.ti G2.ti' hv hS hT).mono ?_
 rintro e w4 ⟨f5,c5,n5,k5,d5,m5,l5,rfl,G5,hx⟩
 replace G5:=G5.mono (B':=w.heap.size+1) hsz
 clear vnc0 vnc1 vnc2 vnc3
 replace hT:=hT.below hx
 replace K1:=K1.below hx
 replace G2:=G2.below hx
 replace R0:=R0.below hx
 replace Vn:=Vn.below hx
 replace hb0:=bel_tr hb0 hx
 replace hsz:=Nat.le_trans hsz (Below.size hx)
 clear hx
 clear K1
 clear G2
 clear Vn
 clear hT
 obtain ⟨r0c0,r0c1,r0c2,r0c3,r0c4,r0c5⟩:=id R0
 obtain ⟨V,OO⟩:=R0.set (.bool f5) (.slice c5 n5 k5) (.slice d5 m5 l5)
 have hw:=hb0.trans (OO.below (B:=w.heap.size) (by omega))
 have GF:=G5.off OO (by omega)
 clear G5
 clear R0 OO hb0
 go_wp2
 refine bodyPost_ret (v:=.tuple #[.agg #[.bool f5,.slice c5 n5 k5,.slice d5 m5 l5],.nilIface]) (by simp [results,Tryz.results120,go_sem,V.c0,V.c1,V.c2]) rfl ⟨_,_,_,_,_,_,_,rfl,GF.mono (B':=w.heap.size) (by omega),hw⟩
set_option maxHeartbeats 4000000 in
theorem quoE {a b:ByteArray} {S:Nat} (w:World) (ha:a.size≤100000000) (hb:b.size≤100000000) (hd:Digs (cutS a).2 (cutS a).2.size) (h0:0<(cutS a).2.size) (hdb:Digs b b.size) (h0b:0<b.size) (hv:rdF b 0 b.size=0) (hSa:a.size≤S) (hSb:b.size≤S) (hS:S≤7000000) {ev:Value} (E:Errs w 0 ev) :
  Calls Tryz.prog 120 #[.string a,.string b] w fun e w'=>e = .returned (.tuple #[.agg #[.bool false,.slice none 0 0,.slice none 0 0],ev])∧Below w.heap.size w w':=by
 have R0:=var3_new w (.bool false) (.slice none 0 0) (.slice none 0 0) 44
 have hb0:=bel_d0 w (.cells #[.bool false,.slice none 0 0,.slice none 0 0] 44)
 have hsz:w.heap.size+1≤(w.alloc (.cells #[.bool false,.slice none 0 0,.slice none 0 0] 44)).heap.size:=by simp
 replace E:=E.below hb0
 go_enter Tryz.func120,Tryz.ntmps120
 go_wp2_with fail
 generalize w.alloc (.cells #[.bool false,.slice none 0 0,.slice none 0 0] 44)=W0 at *
 have hcz:=cutS_size a
 refine (parseI a _ ha hd h0).mono ?_
 rintro e w1 ⟨v1,rfl,K1,hx⟩
 obtain ⟨f1,c1,n1,k1,rfl⟩:=K1.form
 replace K1:=K1.mono (B':=w.heap.size+1) hsz
 replace E:=E.below hx
 replace R0:=R0.below hx
 replace hb0:=bel_tr hb0 hx
 replace hsz:=Nat.le_trans hsz (Below.size hx)
 clear hx
 replace K1:=K1.le (S':=S) (by omega)
 clear hd h0 hcz
 have hx:=bel_d0 w1 (.cells #[.bool f1,.slice c1 n1 k1] 42)
 replace E:=E.below hx
 replace K1:=K1.below hx
 replace R0:=R0.below hx
 replace hb0:=bel_tr hb0 hx
 replace hsz:=Nat.le_trans hsz (Below.size hx)
 have Vn:=var2_new w1 (.bool f1) (.slice c1 n1 k1) 42
 clear hx
 go_wp2_with fail
 generalize w1.alloc (.cells #[.bool f1,.slice c1 n1 k1] 42)=w2 at *
 refine (parse_yes b _ hb hdb h0b).mono ?_
 rintro e w3 ⟨c2,n2,k2,rfl,G2,hx⟩
 replace G2:=G2.mono (B':=w.heap.size+1) hsz
 replace E:=E.below hx
 replace K1:=K1.below hx
 replace R0:=R0.below hx
 replace Vn:=Vn.below hx
 replace hb0:=bel_tr hb0 hx
 replace hsz:=Nat.le_trans hsz (Below.size hx)
 clear hx
 replace G2:=G2.le (S':=S) (by omega)
 clear hdb h0b
 obtain ⟨vnc0,vnc1,vnc2,vnc3⟩:=id Vn
 go_wp2_with fail
 refine (makeE _ K1.ti G2.ti' hv hS E).mono ?_
 rintro e w4 ⟨rfl,hx⟩
 clear vnc0 vnc1 vnc2 vnc3
 replace E:=E.below hx
 replace R0:=R0.below hx
 replace hb0:=bel_tr hb0 hx
 replace hsz:=Nat.le_trans hsz (Below.size hx)
 clear hx K1 G2 Vn
 obtain ⟨r0c0,r0c1,r0c2,r0c3,r0c4,r0c5⟩:=id R0
 obtain ⟨V,O⟩:=R0.set (.bool false) (.slice none 0 0) (.slice none 0 0)
 have hw:=hb0.trans (O.below (B:=w.heap.size) (by omega))
 have E0:=E
 obtain ⟨ec,p,rfl⟩:=E0
 clear R0 O hb0 E
 go_wp2
 refine bodyPost_ret (v:=.tuple #[.agg #[.bool false,.slice none 0 0,.slice none 0 0],.iface 249 (.pointer (some p))]) (by simp [results,Tryz.results120,go_sem,V.c0,V.c1,V.c2]) rfl ⟨rfl,hw⟩
set_option maxHeartbeats 4000000 in
theorem parseS {s:ByteArray} {k:Nat} {r:Rat} {S:Nat} (w:World) (hk:Lib.indexByte s.data.toList 47=(k:Int)) (hks:k<s.size) (hs:s.size≤100000000) (hD:∀ w,TB w→Calls Tryz.prog 120 #[.string (s.extract 0 k),.string (s.extract (k+1) s.size)] w fun e w'=>∃ f c n k2 c' n' k',e = .returned (.tuple #[.agg #[.bool f,.slice c n k2,.slice c' n' k'],.nilIface])∧GR w' w.heap.size f c n k2 c' n' k' r S∧Below w.heap.size w w') (hT:TB w):Parses s r S w:=by
 unfold Parses
 have R0:=var3_new w (.bool false) (.slice none 0 0) (.slice none 0 0) 44
 have hb0:=bel_d0 w (.cells #[.bool false,.slice none 0 0,.slice none 0 0] 44)
 have hsz:w.heap.size+1≤(w.alloc (.cells #[.bool false,.slice none 0 0,.slice none 0 0] 44)).heap.size:=by simp
 replace hT:=hT.below hb0
 go_enter Tryz.func101,Tryz.ntmps101
 go_wp2_with fail
 generalize w.alloc (.cells #[.bool false,.slice none 0 0,.slice none 0 0] 44)=W0 at *
 refine (cutA47 s k _ hk hs hks).mono ?_
 rintro e w1 ⟨rfl,hx⟩
 replace hT:=hT.below hx
 replace R0:=R0.below hx
 replace hb0:=bel_tr hb0 hx
 replace hsz:=Nat.le_trans hsz (Below.size hx)
 clear hx
 clear hk
 generalize s.extract 0 k=ea at *
 generalize s.extract (k+1) s.size=eb at *
 go_wp2_with fail
 refine (hD _ hT).mono ?_
 rintro e w2 ⟨f5,c5,n5,k5,d5,m5,l5,rfl,G5,hx⟩
 replace G5:=G5.mono (B':=w.heap.size+1) hsz
 replace hT:=hT.below hx
 replace R0:=R0.below hx
 replace hb0:=bel_tr hb0 hx
 replace hsz:=Nat.le_trans hsz (Below.size hx)
 clear hx hD
 clear hT
 obtain ⟨r0c0,r0c1,r0c2,r0c3,r0c4,r0c5⟩:=id R0
 obtain ⟨V,OO⟩:=R0.set (.bool f5) (.slice c5 n5 k5) (.slice d5 m5 l5)
 have hw:=hb0.trans (OO.below (B:=w.heap.size) (by omega))
 have GF:=G5.off OO (by omega)
 clear G5
 clear R0 OO hb0
 go_wp2
 refine bodyPost_ret (v:=.tuple #[.agg #[.bool f5,.slice c5 n5 k5,.slice d5 m5 l5],.nilIface]) (by simp [results,Tryz.results101,go_sem,V.c0,V.c1,V.c2]) rfl ⟨_,_,_,_,_,_,_,rfl,GF.mono (by omega),hw⟩
set_option maxHeartbeats 4000000 in
theorem parseDF {s:ByteArray} {gE:Nat} (w:World) (hno:(47:UInt8) ∉ s.data.toList) {ev:Value} (E:Errs w gE ev) (hD:∀ w,Errs w gE ev→Calls Tryz.prog 121 #[.string s] w fun e w'=>e = .returned (.tuple #[.agg #[.bool false,.slice none 0 0,.slice none 0 0],ev])∧Below w.heap.size w w') :
  Calls Tryz.prog 101 #[.string s] w fun e w'=>e = .returned (.tuple #[.agg #[.bool false,.slice none 0 0,.slice none 0 0],ev])∧Below w.heap.size w w':=by
 have R0:=var3_new w (.bool false) (.slice none 0 0) (.slice none 0 0) 44
 have hb0:=bel_d0 w (.cells #[.bool false,.slice none 0 0,.slice none 0 0] 44)
 have hsz:w.heap.size+1≤(w.alloc (.cells #[.bool false,.slice none 0 0,.slice none 0 0] 44)).heap.size:=by simp
 replace E:=E.below hb0
 go_enter Tryz.func101,Tryz.ntmps101
 go_wp2_with fail
 generalize w.alloc (.cells #[.bool false,.slice none 0 0,.slice none 0 0] 44)=W0 at *
 refine (cutN47 _ _ hno).mono ?_
 rintro e w1 ⟨rfl,hx⟩
 replace E:=E.below hx
 replace R0:=R0.below hx
 replace hb0:=bel_tr hb0 hx
 replace hsz:=Nat.le_trans hsz (Below.size hx)
 clear hx
 clear hno
 go_wp2_with fail
 refine (hD _ E).mono ?_
 rintro e w2 ⟨rfl,hx⟩
 replace E:=E.below hx
 replace R0:=R0.below hx
 replace hb0:=bel_tr hb0 hx
 replace hsz:=Nat.le_trans hsz (Below.size hx)
 clear hx hD
 obtain ⟨r0c0,r0c1,r0c2,r0c3,r0c4,r0c5⟩:=id R0
 obtain ⟨V,O⟩:=R0.set (.bool false) (.slice none 0 0) (.slice none 0 0)
 have hw:=hb0.trans (O.below (B:=w.heap.size) (by omega))
 obtain ⟨p,rfl⟩:=E.2
 clear R0 O hb0 E
 go_wp2
 refine bodyPost_ret (v:=.tuple #[.agg #[.bool false,.slice none 0 0,.slice none 0 0],_]) (by simp [results,Tryz.results101,go_sem,V.c0,V.c1,V.c2]) rfl ⟨rfl,hw⟩
set_option maxHeartbeats 4000000 in
theorem parseSF {s:ByteArray} {k:Nat} {gE:Nat} (w:World) (hk:Lib.indexByte s.data.toList 47=(k:Int)) (hks:k<s.size) (hs:s.size≤100000000) {ev:Value} (E:Errs w gE ev) (hD:∀ w,Errs w gE ev→Calls Tryz.prog 120 #[.string (s.extract 0 k),.string (s.extract (k+1) s.size)] w fun e w'=>e = .returned (.tuple #[.agg #[.bool false,.slice none 0 0,.slice none 0 0],ev])∧Below w.heap.size w w') :
  Calls Tryz.prog 101 #[.string s] w fun e w'=>e = .returned (.tuple #[.agg #[.bool false,.slice none 0 0,.slice none 0 0],ev])∧Below w.heap.size w w':=by
 have R0:=var3_new w (.bool false) (.slice none 0 0) (.slice none 0 0) 44
 have hb0:=bel_d0 w (.cells #[.bool false,.slice none 0 0,.slice none 0 0] 44)
 have hsz:w.heap.size+1≤(w.alloc (.cells #[.bool false,.slice none 0 0,.slice none 0 0] 44)).heap.size:=by simp
 replace E:=E.below hb0
 go_enter Tryz.func101,Tryz.ntmps101
 go_wp2_with fail
 generalize w.alloc (.cells #[.bool false,.slice none 0 0,.slice none 0 0] 44)=W0 at *
 refine (cutA47 s k _ hk hs hks).mono ?_
 rintro e w1 ⟨rfl,hx⟩
 replace E:=E.below hx
 replace R0:=R0.below hx
 replace hb0:=bel_tr hb0 hx
 replace hsz:=Nat.le_trans hsz (Below.size hx)
 clear hx
 clear hk
 generalize s.extract 0 k=ea at *
 generalize s.extract (k+1) s.size=eb at *
 go_wp2_with fail
 refine (hD _ E).mono ?_
 rintro e w2 ⟨rfl,hx⟩
 replace E:=E.below hx
 replace R0:=R0.below hx
 replace hb0:=bel_tr hb0 hx
 replace hsz:=Nat.le_trans hsz (Below.size hx)
 clear hx hD
 obtain ⟨r0c0,r0c1,r0c2,r0c3,r0c4,r0c5⟩:=id R0
 obtain ⟨V,O⟩:=R0.set (.bool false) (.slice none 0 0) (.slice none 0 0)
 have hw:=hb0.trans (O.below (B:=w.heap.size) (by omega))
 obtain ⟨p,rfl⟩:=E.2
 clear R0 O hb0 E
 go_wp2
 refine bodyPost_ret (v:=.tuple #[.agg #[.bool false,.slice none 0 0,.slice none 0 0],_]) (by simp [results,Tryz.results101,go_sem,V.c0,V.c1,V.c2]) rfl ⟨rfl,hw⟩
end Go.Proofs.YtgdilnljjgdinaaGreatDoor
