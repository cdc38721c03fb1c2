import Derived.Test.YtgdilnljjgdinaaGreatDoorRatAll
import Derived.Test.YtgdilnljjgdinaaGreatDoorLentAll
import Derived.Test.YtgdilnljjgdinaaGreatDoorWhEAll
import Derived.Test.YtgdilnljjgdinaaGreatDoorNumAll
import Derived.Test.YtgdilnljjgdinaaGreatDoorWhAll
import Derived.Shelf.Strings.Cut
import Derived.Shelf.Strings.IndexAnyAll
import Derived.Shelf.Strings.Repeat
import Derived.Test.YtgdilnljjgdinaaGreatDoorProg
namespace Go.Proofs.YtgdilnljjgdinaaGreatDoor
open Go.RowKit
theorem str_some {s:ByteArray} (h:0<s.size):s.toList.isEmpty=false:=by
 rw [ByteArray.toList_eq]
 obtain ⟨⟨l⟩⟩:=s
 cases l with
 | nil=>exact absurd h (by decide)
 | cons x r=>rfl
set_option maxHeartbeats 1000000 in
theorem cut_minus (s:ByteArray) (w:World) (hs:s.size≤100000000) (h0:0<s.size) (hB:byt s 0=45) :
  Calls Tryz.prog 141 #[.string s] w fun e w'=>e = .returned (.tuple #[.bool true,.string (s.extract 1 s.size)])∧Below w.heap.size w w':=by
 have hby:=byt_get h0
 rw [hB] at hby
 have h0':(0:Int)<(s.size:Int):=by omega
 have h1':(1:Int)≤(s.size:Int):=by omega
 have he:=str_some h0
 go_enter Tryz.func141,Tryz.ntmps141
 go_wp2
 go_region
 go_wp2
 go_ret2
 exact ⟨rfl,(Below.refl _ _).drew⟩
set_option maxHeartbeats 1000000 in
theorem cut_plus (s:ByteArray) (w:World) (hs:s.size≤100000000) (h0:0<s.size) (hB:byt s 0=43) :
  Calls Tryz.prog 141 #[.string s] w fun e w'=>e = .returned (.tuple #[.bool false,.string (s.extract 1 s.size)])∧Below w.heap.size w w':=by
 have hby:=byt_get h0
 rw [hB] at hby
 have h0':(0:Int)<(s.size:Int):=by omega
 have h1':(1:Int)≤(s.size:Int):=by omega
 have he:=str_some h0
 go_enter Tryz.func141,Tryz.ntmps141
 go_wp2
 go_region
 go_wp2
 go_ret2
 exact ⟨rfl,(Below.refl _ _).drew⟩
set_option maxHeartbeats 1000000 in
theorem cut_none (s:ByteArray) (w:World) (hs:s.size≤100000000) (h0:0<s.size) (hB:byt s 0≠43) (hB':byt s 0≠45) :
  Calls Tryz.prog 141 #[.string s] w fun e w'=>e = .returned (.tuple #[.bool false,.string s])∧Below w.heap.size w w':=by
 have hby:=byt_get h0
 have h0':(0:Int)<(s.size:Int):=by omega
 have he:=str_some h0
 generalize byt s 0=B at *
 have t1:(B != 43)=true:=by simpa using hB
 have t2:(B != 45)=true:=by simpa using hB'
 go_enter Tryz.func141,Tryz.ntmps141
 go_wp2
 go_ret2
 exact ⟨rfl,Below.refl _ _⟩
set_option maxHeartbeats 1000000 in
theorem cut_nil (w:World) :
  Calls Tryz.prog 141 #[.string ⟨#[]⟩] w fun e w'=>e = .returned (.tuple #[.bool false,.string ⟨#[]⟩])∧Below w.heap.size w w':=by
 go_enter Tryz.func141,Tryz.ntmps141
 go_wp2
 go_ret2
 exact ⟨rfl,Below.refl _ _⟩
def cutS (s:ByteArray):Bool × ByteArray :=
 if 0<s.size∧byt s 0=45 then (true,s.extract 1 s.size) else if 0<s.size∧byt s 0=43 then (false,s.extract 1 s.size) else (false,s)
theorem cutS_size (s:ByteArray):(cutS s).2.size≤s.size:=by
 unfold cutS
 split
 ·show (s.extract 1 s.size).size≤s.size
  rw [size_extract _ _ _ (Nat.le_refl _)];omega
 ·split
  ·show (s.extract 1 s.size).size≤s.size
   rw [size_extract _ _ _ (Nat.le_refl _)];omega
  ·exact Nat.le_refl _
theorem cutS_any (s:ByteArray) (w:World) (hs:s.size≤100000000) :
  Calls Tryz.prog 141 #[.string s] w fun e w'=>e = .returned (.tuple #[.bool (cutS s).1,.string (cutS s).2])∧Below w.heap.size w w':=by
 rcases Nat.eq_zero_or_pos s.size with h|h
 ·obtain rfl:s=⟨#[]⟩:=by
   obtain ⟨⟨l⟩⟩:=s
   cases l with
   | nil=>rfl
   | cons x r=>exact absurd h (by show ¬ ((x::r).length=0);simp)
  exact cut_nil w
 ·by_cases h1:byt s 0=45
  ·have e:cutS s=(true,s.extract 1 s.size):=if_pos ⟨h,h1⟩
   rw [e]
   exact cut_minus s w hs h h1
  ·by_cases h2:byt s 0=43
   ·have e:cutS s=(false,s.extract 1 s.size):=by
     unfold cutS
     rw [if_neg (fun a=>h1 a.2),if_pos ⟨h,h2⟩]
    rw [e]
    exact cut_plus s w hs h h2
   ·have e:cutS s=(false,s):=by
     unfold cutS
     rw [if_neg (fun a=>h1 a.2),if_neg (fun a=>h2 a.2)]
    rw [e]
    exact cut_none s w hs h h2 h1
set_option maxHeartbeats 1000000 in
theorem parseI (s:ByteArray) (w:World) (hs:s.size≤100000000) (hd:Digs (cutS s).2 (cutS s).2.size) (h0:0<(cutS s).2.size) :
  Calls Tryz.prog 128 #[.string s] w fun e w'=>∃ v,e = .returned (.tuple #[v,.nilIface])∧GI w' w.heap.size v (ws (cutS s).1 (rdF (cutS s).2 0 (cutS s).2.size)) (cutS s).2.size∧Below w.heap.size w w':=by
 have hz:=cutS_size s
 have hc:=fun u=>cutS_any s u hs
 generalize (cutS s).1=b at *
 generalize (cutS s).2=r at *
 obtain ⟨R0,hb0,hsz⟩:=box1 w (.bool false) (.slice none 0 0) 42
 go_enter Tryz.func128,Tryz.ntmps128
 go_wp2_with fail
 generalize w.alloc (.cells #[.bool false,.slice none 0 0] 42)=W0 at *
 refine (hc _).mono ?_
 rintro e w1 ⟨rfl,hb1⟩
 replace R0:=R0.below hb1
 replace hb0:=bel_tr hb0 hb1
 have hs1:=hb1.size
 clear hb1 hc
 go_wp2_with fail
 refine (parse_yes _ _ (by omega) hd h0).mono ?_
 rintro e w2 ⟨c1,n1,d1,rfl,G,hb2⟩
 replace R0:=R0.below hb2
 replace hb0:=bel_tr hb0 hb2
 have hs2:=hb2.size
 clear hb2
 go_wp2_with fail
 refine (signed_any _ _ _ _ _).mono ?_
 rintro e w3 ⟨rfl,hb3⟩
 replace R0:=R0.below hb3
 have hw2:=bel_tr hb0 hb3
 have GF:=(G.gi b).below hb3
 obtain ⟨r0,r1,r2,r3⟩:=id R0
 generalize (b && decide (0<n1))=B at *
 obtain ⟨V,O⟩:=R0.set (.bool B) (.slice c1 n1 d1)
 clear hb3 hb0 G
 go_wp2
 refine bodyPost_ret (v:=.tuple #[.agg #[.bool B,.slice c1 n1 d1],.nilIface]) (by simp [results,Tryz.results128,go_sem,V.c0,V.c1]) rfl ⟨_,rfl,((GF.off O (by omega)).mono (by omega)),hw2.trans (O.below (by omega))⟩
set_option maxHeartbeats 1000000 in
theorem parseN (s:ByteArray) (w:World) (ev:Value) (hs:s.size≤100000000) (hd:¬ (Digs (cutS s).2 (cutS s).2.size∧0<(cutS s).2.size)) (E:Errs w 11 ev) :
  Calls Tryz.prog 128 #[.string s] w fun e w'=>e = .returned (.tuple #[.agg #[.bool false,.slice none 0 0],ev])∧Below w.heap.size w w':=by
 have hz:=cutS_size s
 have hc:=fun u=>cutS_any s u hs
 generalize (cutS s).1=b at *
 generalize (cutS s).2=r at *
 obtain ⟨R0,hb0,hsz⟩:=box1 w (.bool false) (.slice none 0 0) 42
 go_enter Tryz.func128,Tryz.ntmps128
 go_wp2_with fail
 generalize w.alloc (.cells #[.bool false,.slice none 0 0] 42)=W0 at *
 refine (hc _).mono ?_
 rintro e w1 ⟨rfl,hb1⟩
 replace R0:=R0.below hb1
 replace hb0:=bel_tr hb0 hb1
 have hs1:=hb1.size
 clear hb1 hc
 go_wp2_with fail
 refine (parse_no _ _ ev (by omega) hd (E.below hb0)).mono ?_
 rintro e w2 ⟨rfl,hb2⟩
 replace R0:=R0.below hb2
 replace hb0:=bel_tr hb0 hb2
 have hs2:=hb2.size
 clear hb2
 obtain ⟨r0,r1,r2,r3⟩:=id R0
 obtain ⟨V,O⟩:=R0.set (.bool false) (.slice none 0 0)
 obtain ⟨p,rfl⟩:=E.2
 go_wp2
 exact bodyPost_ret (v:=.tuple #[.agg #[.bool false,.slice none 0 0],.iface 249 (.pointer (some p))]) (by simp [results,Tryz.results128,go_sem,V.c0,V.c1]) rfl ⟨rfl,hb0.trans (O.below (by omega))⟩
def uw (m:Int):Int:=if m<18446744073709551616 then m else 0
def uf (m:Int):Bool:=decide (m<18446744073709551616)
theorem one_limb {xs:List Int} (hx:AllW xs):(tlen xs≤1→(if tlen xs=1 then lm xs 0 else 0)=val xs∧val xs<18446744073709551616)∧(1<tlen xs→18446744073709551616≤val xs):=by
 have h1:=vS_trim xs
 have h2:=val_lt_tlen hx
 refine ⟨fun h=>?_,fun h=>?_⟩
 ·rcases (by omega:tlen xs=0∨tlen xs=1) with e|e
  ·rw [e] at h1 h2
   rw [if_neg (by omega),← h1]
   exact ⟨rfl,by simp [vS]⟩
  ·rw [e] at h1 h2
   rw [if_pos e]
   have e1:pw 1=18446744073709551616:=by decide
   rw [e1] at h2
   refine ⟨?_,h2⟩
   rw [← h1];simp [vS,pw_zero]
 ·have h3:=val_ge hx (by omega)
  have h4:=pw_mono (show 1≤tlen xs-1 by omega)
  have e1:pw 1=18446744073709551616:=by decide
  omega
set_option maxHeartbeats 400000 in
theorem uintV {a:Option Addr} {n c:Nat} {m:Int} {S:Nat} (w:World) (h:Num w a n c m S) (hS:S≤1000000000000) :
  Calls Tryz.prog 158 #[.slice a n c] w fun e w'=>e = .returned (.tuple #[.int .u64 (uw m),.bool (uf m)])∧w=w':=by
 obtain ⟨xs,hn,hl,hr,hx,rfl,hS'⟩:=h
 have ta:tlen xs≤xs.length:=tl_le _ _
 obtain ⟨k1,k2⟩:=one_limb hx
 have HU:Hid (uw (val xs)=if tlen xs=1 then lm xs 0 else 0):=by
  show _=_
  unfold uw
  rcases Nat.lt_or_ge 1 (tlen xs) with h|h
  ·rw [if_neg (by have:=k2 h;omega),if_neg (by omega)]
  ·rw [if_pos (k1 h).2,(k1 h).1]
 have HF:Hid (uf (val xs)=decide (tlen xs≤1)):=by
  show _=_
  unfold uf
  rcases Nat.lt_or_ge 1 (tlen xs) with h|h
  ·rw [decide_eq_false (by have:=k2 h;omega),decide_eq_false (by omega)]
  ·rw [decide_eq_true (k1 h).2,decide_eq_true (by omega)]
 subst hn
 clear k1 k2
 go_enter Tryz.func158,Tryz.ntmps158
 go_wp2_with fail
 refine (trim_any a _ c xs _ rfl hl (by omega) hr).mono ?_
 rintro e w1 ⟨rfl,rfl⟩
 generalize tlen xs=m at *
 by_cases h0:m=0
 ·subst h0
  go_wp2
  go_ret2
  exact ⟨by rw [HU.out,HF.out];rfl,rfl⟩
 ·by_cases h1:m=1
  ·subst h1
   obtain ⟨b1,o1,rfl,hc1⟩:=hr.at (by omega)
   have cc:=hc1 0 (by omega)
   rw [Nat.add_zero] at cc
   clear hc1
   go_wp2
   go_ret2
   exact ⟨by rw [HU.out,HF.out];rfl,rfl⟩
  ·have t0:((m:Int) == 0)=false:=by simp;omega
   have t1:((m:Int) == 1)=false:=by simp;omega
   go_wp2
   go_ret2
   refine ⟨?_,rfl⟩
   rw [HU.out,HF.out,if_neg h1]
   have:decide (m≤1)=false:=by simp;omega
   rw [this];rfl
end Go.Proofs.YtgdilnljjgdinaaGreatDoor
namespace Go.Proofs.YtgdilnljjgdinaaGreatDoor
open Go.RowKit
theorem wrap_down {m:Int} (h:0≤m) (hf:m≤9223372036854775808):IntKind.i64.wrap (IntKind.u64.wrap (-m)) = -m:=by
 rw [IntKind.wrap_u64]
 rcases Int.lt_or_le 0 m with h1|h1
 ·rw [show (-m)%18446744073709551616=18446744073709551616-m by omega,IntKind.wrap_i64]
  omega
 ·rw [show m=0 by omega];rfl
def fitI (x:Int):Bool:=decide (-9223372036854775808≤x∧x<9223372036854775808)
def wordI (x:Int):Int:=if -9223372036854775808≤x∧x<9223372036854775808 then x else 0
set_option maxHeartbeats 1000000 in
theorem int64I {a:Option Addr} {na ca:Nat} {m:Int} {S:Nat} (p:Bool) (w:World) (ha:Num w a na ca m S) (hS:S≤10000000000) :
  Calls Tryz.prog 148 #[.agg #[.bool p,.slice a na ca]] w fun e w'=>e = .returned (.tuple #[.int .i64 (wordI (ws p m)),.bool (fitI (ws p m))])∧Below w.heap.size w w':=by
 have h0:=ha.nn
 obtain ⟨P0,hb0,hsz⟩:=box1 w (.bool p) (.slice a na ca) 42
 replace ha:=ha.below hb0
 go_enter Tryz.func148,Tryz.ntmps148
 go_wp2_with fail
 generalize w.alloc (.cells #[.bool p,.slice a na ca] 42)=W0 at *
 obtain ⟨p00,p01,p02,p03⟩:=id P0
 refine (uintV _ ha (by omega)).mono ?_
 rintro e w2 ⟨rfl,rfl⟩
 by_cases h64:m<18446744073709551616
 ·rw [show uw m=m from if_pos h64,show uf m=true from decide_eq_true h64]
  cases p with
  | true =>
   by_cases hf:m≤9223372036854775808
   ·have HX:Hid (wordI (ws true m) = -m∧fitI (ws true m)=true):=by
     refine ⟨?_,?_⟩
     ·unfold wordI ws;simp only [if_true];rw [if_pos (by omega)]
     ·unfold fitI ws;simp only [if_true];exact decide_eq_true (by omega)
    have hwr:IntKind.i64.wrap (IntKind.u64.wrap (-m)) = -m:=wrap_down h0 hf
    clear P0 ha
    go_wp2
    go_ret2
    exact ⟨by rw [HX.out.1,HX.out.2];rfl,hb0⟩
   ·have HX:Hid (wordI (ws true m)=0∧fitI (ws true m)=false):=by
     refine ⟨?_,?_⟩
     ·unfold wordI ws;simp only [if_true];rw [if_neg (by omega)]
     ·unfold fitI ws;simp only [if_true];exact decide_eq_false (by omega)
    clear P0 ha
    go_wp2
    go_ret2
    exact ⟨by rw [HX.out.1,HX.out.2];rfl,hb0⟩
  | false =>
   by_cases hf:m<9223372036854775808
   ·have HX:Hid (wordI (ws false m)=m∧fitI (ws false m)=true):=by
     refine ⟨?_,?_⟩
     ·unfold wordI ws;simp only [Bool.false_eq_true,if_false];rw [if_pos (by omega)]
     ·unfold fitI ws;simp only [Bool.false_eq_true,if_false];exact decide_eq_true (by omega)
    clear P0 ha
    go_wp2
    go_ret2
    exact ⟨by rw [HX.out.1,HX.out.2];rfl,hb0⟩
   ·have HX:Hid (wordI (ws false m)=0∧fitI (ws false m)=false):=by
     refine ⟨?_,?_⟩
     ·unfold wordI ws;simp only [Bool.false_eq_true,if_false];rw [if_neg (by omega)]
     ·unfold fitI ws;simp only [Bool.false_eq_true,if_false];exact decide_eq_false (by omega)
    clear P0 ha
    go_wp2
    go_ret2
    exact ⟨by rw [HX.out.1,HX.out.2];rfl,hb0⟩
 ·rw [show uw m=0 from if_neg h64,show uf m=false from decide_eq_false h64]
  have HX:Hid (wordI (ws p m)=0∧fitI (ws p m)=false):=by
   refine ⟨?_,?_⟩
   ·unfold wordI ws;cases p <;> simp <;> omega
   ·unfold fitI ws;cases p <;> simp <;> omega
  clear P0 ha
  go_wp2
  go_ret2
  exact ⟨by rw [HX.out.1,HX.out.2];rfl,hb0⟩
end Go.Proofs.YtgdilnljjgdinaaGreatDoor
namespace Go.Proofs
open Go.Shelf
def Tryz.lays217_ren:Go.Shelf.Ren:=⟨fun|217=>85|266=>110|n=>n,fun|9=>9|5=>5|3=>3|n=>n,fun|n=>n⟩
theorem Tryz.lays217:Go.Proofs.Lays.n217 Tryz.prog Tryz.lays217_ren:={
 mixed:=by kernel_rfl
 f217:=Tryz.func85.trans (congrArg some (by kernel_rfl))
 f266:=Tryz.func110.trans (congrArg some (by kernel_rfl))
 t3:=Tryz.underlying3
 a3:=Tryz.isAgg3
 z3:=Tryz.sizeOf3
 v3:=Tryz.zeroValue3
 t5:=Tryz.underlying5
 a5:=Tryz.isAgg5
 z5:=Tryz.sizeOf5
 v5:=Tryz.zeroValue5
 t9:=Tryz.underlying9
 a9:=Tryz.isAgg9
 z9:=Tryz.sizeOf9
 v9:=Tryz.zeroValue9 }
def Tryz.lays153_ren:Go.Shelf.Ren:=⟨fun|153=>147|152=>122|226=>157|227=>78|228=>104|137=>52|119=>138|224=>124|225=>123|217=>85|266=>110|n=>n,fun|9=>9|3=>3|4=>4|5=>5|21=>21|117=>131|116=>130|0=>0|46=>158|124=>134|n=>n,fun|n=>n⟩
theorem Tryz.lays153:Go.Proofs.Lays.n153 Tryz.prog Tryz.lays153_ren:={
 mixed:=by kernel_rfl
 f119:=Tryz.func138.trans (congrArg some (by kernel_rfl))
 f137:=Tryz.func52.trans (congrArg some (by kernel_rfl))
 f152:=Tryz.func122.trans (congrArg some (by kernel_rfl))
 f153:=Tryz.func147.trans (congrArg some (by kernel_rfl))
 f217:=Tryz.func85.trans (congrArg some (by kernel_rfl))
 f224:=Tryz.func124.trans (congrArg some (by kernel_rfl))
 f225:=Tryz.func123.trans (congrArg some (by kernel_rfl))
 f226:=Tryz.func157.trans (congrArg some (by kernel_rfl))
 f227:=Tryz.func78.trans (congrArg some (by kernel_rfl))
 f228:=Tryz.func104.trans (congrArg some (by kernel_rfl))
 f266:=Tryz.func110.trans (congrArg some (by kernel_rfl))
 t0:=Tryz.underlying0
 a0:=Tryz.isAgg0
 z0:=Tryz.sizeOf0
 v0:=Tryz.zeroValue0
 t3:=Tryz.underlying3
 a3:=Tryz.isAgg3
 z3:=Tryz.sizeOf3
 v3:=Tryz.zeroValue3
 t4:=Tryz.underlying4
 a4:=Tryz.isAgg4
 z4:=Tryz.sizeOf4
 v4:=Tryz.zeroValue4
 t5:=Tryz.underlying5
 a5:=Tryz.isAgg5
 z5:=Tryz.sizeOf5
 v5:=Tryz.zeroValue5
 t9:=Tryz.underlying9
 a9:=Tryz.isAgg9
 z9:=Tryz.sizeOf9
 v9:=Tryz.zeroValue9
 t21:=Tryz.underlying21
 a21:=Tryz.isAgg21
 z21:=Tryz.sizeOf21
 v21:=Tryz.zeroValue21
 t46:=Tryz.underlying158
 a46:=Tryz.isAgg158
 z46:=Tryz.sizeOf158
 v46:=Tryz.zeroValue158
 t116:=Tryz.underlying130
 a116:=Tryz.isAgg130
 z116:=Tryz.sizeOf130
 t117:=Tryz.underlying131
 a117:=Tryz.isAgg131
 z117:=Tryz.sizeOf131
 v117:=Tryz.zeroValue131
 t124:=Tryz.underlying134
 a124:=Tryz.isAgg134
 z124:=Tryz.sizeOf134
 v124:=Tryz.zeroValue134 }
def Tryz.lays150_ren:Go.Shelf.Ren:=⟨fun|150=>132|153=>147|152=>122|226=>157|227=>78|228=>104|137=>52|119=>138|224=>124|225=>123|217=>85|266=>110|n=>n,fun|9=>9|4=>4|3=>3|5=>5|21=>21|117=>131|116=>130|0=>0|46=>158|124=>134|n=>n,fun|n=>n⟩
theorem Tryz.lays150:Go.Proofs.Lays.n150 Tryz.prog Tryz.lays150_ren:={
 mixed:=by kernel_rfl
 f119:=Tryz.func138.trans (congrArg some (by kernel_rfl))
 f137:=Tryz.func52.trans (congrArg some (by kernel_rfl))
 f150:=Tryz.func132.trans (congrArg some (by kernel_rfl))
 f152:=Tryz.func122.trans (congrArg some (by kernel_rfl))
 f153:=Tryz.func147.trans (congrArg some (by kernel_rfl))
 f217:=Tryz.func85.trans (congrArg some (by kernel_rfl))
 f224:=Tryz.func124.trans (congrArg some (by kernel_rfl))
 f225:=Tryz.func123.trans (congrArg some (by kernel_rfl))
 f226:=Tryz.func157.trans (congrArg some (by kernel_rfl))
 f227:=Tryz.func78.trans (congrArg some (by kernel_rfl))
 f228:=Tryz.func104.trans (congrArg some (by kernel_rfl))
 f266:=Tryz.func110.trans (congrArg some (by kernel_rfl))
 t0:=Tryz.underlying0
 a0:=Tryz.isAgg0
 z0:=Tryz.sizeOf0
 v0:=Tryz.zeroValue0
 t3:=Tryz.underlying3
 a3:=Tryz.isAgg3
 z3:=Tryz.sizeOf3
 v3:=Tryz.zeroValue3
 t4:=Tryz.underlying4
 a4:=Tryz.isAgg4
 z4:=Tryz.sizeOf4
 v4:=Tryz.zeroValue4
 t5:=Tryz.underlying5
 a5:=Tryz.isAgg5
 z5:=Tryz.sizeOf5
 v5:=Tryz.zeroValue5
 t9:=Tryz.underlying9
 a9:=Tryz.isAgg9
 z9:=Tryz.sizeOf9
 v9:=Tryz.zeroValue9
 t21:=Tryz.underlying21
 a21:=Tryz.isAgg21
 z21:=Tryz.sizeOf21
 v21:=Tryz.zeroValue21
 t46:=Tryz.underlying158
 a46:=Tryz.isAgg158
 z46:=Tryz.sizeOf158
 v46:=Tryz.zeroValue158
 t116:=Tryz.underlying130
 a116:=Tryz.isAgg130
 z116:=Tryz.sizeOf130
 t117:=Tryz.underlying131
 a117:=Tryz.isAgg131
 z117:=Tryz.sizeOf131
 v117:=Tryz.zeroValue131
 t124:=Tryz.underlying134
 a124:=Tryz.isAgg134
 z124:=Tryz.sizeOf134
 v124:=Tryz.zeroValue134 }
def Tryz.lays105_ren:Go.Shelf.Ren:=⟨fun|105=>151|212=>161|99=>51|165=>162|166=>163|170=>164|169=>165|263=>176|264=>154|206=>84|240=>177|241=>178|276=>187|277=>188|n=>n,fun|9=>9|3=>3|4=>4|20=>20|0=>0|46=>158|109=>224|5=>5|72=>228|76=>198|51=>173|146=>174|53=>113|148=>217|70=>226|37=>147|75=>34|127=>153|164=>83|80=>231|n=>n,fun|n=>n⟩
theorem Tryz.lays105:Go.Proofs.Lays.n105 Tryz.prog Tryz.lays105_ren:={
 mixed:=by kernel_rfl
 f99:=Tryz.func51.trans (congrArg some (by kernel_rfl))
 f105:=Tryz.func151.trans (congrArg some (by kernel_rfl))
 f165:=Tryz.func162.trans (congrArg some (by kernel_rfl))
 f166:=Tryz.func163.trans (congrArg some (by kernel_rfl))
 f169:=Tryz.func165.trans (congrArg some (by kernel_rfl))
 f170:=Tryz.func164.trans (congrArg some (by kernel_rfl))
 f206:=Tryz.func84.trans (congrArg some (by kernel_rfl))
 f212:=Tryz.func161.trans (congrArg some (by kernel_rfl))
 f240:=Tryz.func177.trans (congrArg some (by kernel_rfl))
 f241:=Tryz.func178.trans (congrArg some (by kernel_rfl))
 f263:=Tryz.func176.trans (congrArg some (by kernel_rfl))
 f264:=Tryz.func154.trans (congrArg some (by kernel_rfl))
 f276:=Tryz.func187.trans (congrArg some (by kernel_rfl))
 f277:=Tryz.func188.trans (congrArg some (by kernel_rfl))
 t0:=Tryz.underlying0
 a0:=Tryz.isAgg0
 z0:=Tryz.sizeOf0
 v0:=Tryz.zeroValue0
 t3:=Tryz.underlying3
 a3:=Tryz.isAgg3
 z3:=Tryz.sizeOf3
 v3:=Tryz.zeroValue3
 t4:=Tryz.underlying4
 a4:=Tryz.isAgg4
 z4:=Tryz.sizeOf4
 v4:=Tryz.zeroValue4
 t5:=Tryz.underlying5
 a5:=Tryz.isAgg5
 z5:=Tryz.sizeOf5
 v5:=Tryz.zeroValue5
 t9:=Tryz.underlying9
 a9:=Tryz.isAgg9
 z9:=Tryz.sizeOf9
 v9:=Tryz.zeroValue9
 t20:=Tryz.underlying20
 a20:=Tryz.isAgg20
 z20:=Tryz.sizeOf20
 v20:=Tryz.zeroValue20
 t37:=Tryz.underlying147
 a37:=Tryz.isAgg147
 z37:=Tryz.sizeOf147
 v37:=Tryz.zeroValue147
 t46:=Tryz.underlying158
 a46:=Tryz.isAgg158
 z46:=Tryz.sizeOf158
 v46:=Tryz.zeroValue158
 t51:=Tryz.underlying173
 a51:=Tryz.isAgg173
 z51:=Tryz.sizeOf173
 v51:=Tryz.zeroValue173
 t53:=Tryz.underlying113
 a53:=Tryz.isAgg113
 z53:=Tryz.sizeOf113
 v53:=Tryz.zeroValue113
 t70:=Tryz.underlying226
 a70:=Tryz.isAgg226
 z70:=Tryz.sizeOf226
 v70:=Tryz.zeroValue226
 t72:=Tryz.underlying228
 a72:=Tryz.isAgg228
 z72:=Tryz.sizeOf228
 v72:=Tryz.zeroValue228
 t75:=Tryz.underlying34
 a75:=Tryz.isAgg34
 z75:=Tryz.sizeOf34
 v75:=Tryz.zeroValue34
 t76:=Tryz.underlying198
 a76:=Tryz.isAgg198
 z76:=Tryz.sizeOf198
 v76:=Tryz.zeroValue198
 t109:=Tryz.underlying224
 a109:=Tryz.isAgg224
 z109:=Tryz.sizeOf224
 v109:=Tryz.zeroValue224
 t127:=Tryz.underlying153
 a127:=Tryz.isAgg153
 z127:=Tryz.sizeOf153
 v127:=Tryz.zeroValue153
 t146:=Tryz.underlying174
 a146:=Tryz.isAgg174
 z146:=Tryz.sizeOf174
 v146:=Tryz.zeroValue174
 t148:=Tryz.underlying217
 a148:=Tryz.isAgg217
 z148:=Tryz.sizeOf217
 v148:=Tryz.zeroValue217
 t164:=Tryz.underlying83
 a164:=Tryz.isAgg83
 z164:=Tryz.sizeOf83
 v164:=Tryz.zeroValue83 }
theorem Tryz.Builder_Extra_105:Builder.Extra Tryz.prog Tryz.lays105_ren:={
 sizeBuilder:=by kernel_rfl
 liesBuilder:=by kernel_rfl
 t5:=Tryz.underlying5
 a5:=Tryz.isAgg5
 z5:=Tryz.sizeOf5
 v5:=Tryz.zeroValue5
 infoByte:=by kernel_rfl
 cellsByte:=by kernel_rfl
 sizeByte:=by kernel_rfl
 neB5:=by decide }
end Go.Proofs
namespace Go.Proofs.YtgdilnljjgdinaaGreatDoor
open Go.RowKit Go.Shelf
theorem ibyteS (s:ByteArray) (c:Int) (w:World) :
  Calls Tryz.prog 85 #[.string s,.int .u8 c] w fun e w'=>e = .returned (.int .i64 (Lib.indexByte s.data.toList c.toNat.toUInt8))∧w'=w:=Any.stringslite_IndexByte Tryz.lays217 s c w
theorem canyS (s t:ByteArray) (w:World) (hs:s.size<4294967281) (ht:t.size<4294967281) (ha:∀ (j:Nat) (b:UInt8),s.data.toList[j]? = some b→b.toNat<128) (hb:∀ (j:Nat) (b:UInt8),t.data.toList[j]? = some b→b.toNat<128) :
  Calls Tryz.prog 132 #[.string s,.string t] w fun e w'=>e = .returned (.bool (Lib.containsAny s.data.toList t.data.toList))∧Below w.heap.size w w':=Any.strings_ContainsAny_laid Tryz.lays150 (by kernel_rfl) s t w hs ht ha hb
theorem repeatS (s:ByteArray) (c:Nat) (w:World) (hc2:2≤c) (hc:c≤9223372036854775807) (hl:s.size*c≤140737488355328) (h0:0<s.size) :
  Calls Tryz.prog 151 #[.string s,.int .i64 c] w fun e w'=>e = .returned (.string ⟨(Lib.repeatL s.data.toList c).toArray⟩)∧Below w.heap.size w w':=Any.strings_Repeat_main Tryz.lays105 Tryz.Builder_Extra_105 s c w hc2 hc hl h0
theorem asc_of {l:List UInt8} (h:l.all (fun b=>decide (b.toNat<128))=true):∀ (j:Nat) (b:UInt8),l[j]? = some b→b.toNat<128:=fun j b hj=>by
 have hm:b ∈ l:=List.mem_of_getElem? hj
 exact of_decide_eq_true (List.all_eq_true.1 h b hm)
theorem rd0:rdF ⟨#[48]⟩ 0 1=0:=by decide
theorem digs1:Digs ⟨#[48]⟩ 1:=by
 intro i hi
 obtain rfl:i=0:=by omega
 decide
theorem cs0:cutS ⟨#[48]⟩=(false,⟨#[48]⟩):=by decide
theorem parse0 (w:World):Calls Tryz.prog 128 #[.string ⟨#[48]⟩] w fun e w'=>∃ f c n d,e = .returned (.tuple #[.agg #[.bool f,.slice c n d],.nilIface])∧GI w' w.heap.size (.agg #[.bool f,.slice c n d]) 0 1∧Below w.heap.size w w':=by
 refine (parseI ⟨#[48]⟩ w (by decide) (by rw [cs0];exact digs1) (by rw [cs0];decide)).mono ?_
 rintro e w' ⟨v,rfl,G,hb⟩
 rw [cs0] at G
 obtain ⟨f,c,n,d,rfl⟩:=G.form
 exact ⟨f,c,n,d,rfl,G.val (by show ws false (rdF ⟨#[48]⟩ 0 1)=0;rw [rd0];rfl),hb⟩
end Go.Proofs.YtgdilnljjgdinaaGreatDoor
namespace Go.Proofs.YtgdilnljjgdinaaGreatDoor
open Go.RowKit Go.Shelf
set_option maxHeartbeats 4000000 in
theorem parseExp (w:World):Calls Tryz.prog 133 #[.string ⟨#[48]⟩] w fun e w'=>e = .returned (.tuple #[.int .i64 0,.nilIface])∧Below w.heap.size w w':=by
 go_enter Tryz.func133,Tryz.ntmps133
 go_wp2_with fail
 refine (parse0 _).mono ?_
 rintro e w1 ⟨f,c,n,k,rfl,G,hx⟩
 obtain ⟨e1,K⟩:=G.parts
 obtain rfl:f=false:=by rw [e1];decide
 clear e1 G
 obtain ⟨V,hv,hsv⟩:=box1 w1 (.bool false) (.slice c n k) 42
 replace K:=K.below hv
 replace hx:=bel_tr hx hv
 clear hv hsv
 obtain ⟨v0,v1,v2,v3⟩:=id V
 go_wp2_with fail
 generalize w1.alloc (.cells #[.bool false,.slice c n k] 42)=w2 at *
 refine (int64I false _ K.num (by omega)).mono ?_
 rw [show wordI (ws false ((0:Int).natAbs:Int))=0 by decide,show fitI (ws false ((0:Int).natAbs:Int))=true by decide]
 rintro e w3 ⟨rfl,h3⟩
 have hw:=bel_tr hx h3
 clear V v0 v1 v2 v3 K h3
 go_wp2
 go_ret2
 exact ⟨rfl,hw⟩
end Go.Proofs.YtgdilnljjgdinaaGreatDoor
