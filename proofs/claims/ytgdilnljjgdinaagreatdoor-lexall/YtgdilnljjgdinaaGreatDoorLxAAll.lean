import Derived.Shelf.Strings.SlTrimAscii
import Derived.Shelf.Strings.Fold
import Derived.Shelf.Strings.Prefix
import Derived.Shelf.Small.Strs
import Derived.Shelf.Strings.Count
import Derived.Shelf.Strings.LastIndex
import Derived.Test.YtgdilnljjgdinaaGreatDoorProg
import Derived.Test.YtgdilnljjgdinaaGreatDoorLxWAll
import Derived.Test.YtgdilnljjgdinaaGreatDoorTxtAll
namespace Go.Proofs
open Go.Shelf
def Tryz.lays161_ren:Go.Shelf.Ren:=⟨fun|161=>48|231=>77|227=>78|233=>79|235=>80|228=>104|197=>82|151=>105|260=>107|152=>122|137=>52|119=>138|224=>124|225=>123|217=>85|266=>110|n=>n,fun|9=>9|4=>4|3=>3|5=>5|117=>131|116=>130|0=>0|124=>134|105=>135|21=>21|119=>179|46=>158|139=>182|138=>181|n=>n,fun|3=>9|4=>10|n=>n⟩
theorem Tryz.lays161:Go.Proofs.Lays.n161 Tryz.prog Tryz.lays161_ren:={
 mixed:=by kernel_rfl
 f119:=Tryz.func138.trans (congrArg some (by kernel_rfl))
 f137:=Tryz.func52.trans (congrArg some (by kernel_rfl))
 f151:=Tryz.func105.trans (congrArg some (by kernel_rfl))
 f152:=Tryz.func122.trans (congrArg some (by kernel_rfl))
 f161:=Tryz.func48.trans (congrArg some (by kernel_rfl))
 f197:=Tryz.func82.trans (congrArg some (by kernel_rfl))
 f217:=Tryz.func85.trans (congrArg some (by kernel_rfl))
 f224:=Tryz.func124.trans (congrArg some (by kernel_rfl))
 f225:=Tryz.func123.trans (congrArg some (by kernel_rfl))
 f227:=Tryz.func78.trans (congrArg some (by kernel_rfl))
 f228:=Tryz.func104.trans (congrArg some (by kernel_rfl))
 f231:=Tryz.func77.trans (congrArg some (by kernel_rfl))
 f233:=Tryz.func79.trans (congrArg some (by kernel_rfl))
 f235:=Tryz.func80.trans (congrArg some (by kernel_rfl))
 f260:=Tryz.func107.trans (congrArg some (by kernel_rfl))
 f266:=Tryz.func110.trans (congrArg some (by kernel_rfl))
 t0:=Tryz.underlying0
 a0:=Tryz.isAgg0
 z0:=Tryz.sizeOf0
 v0:=Tryz.zeroValue0
 t3:=Tryz.underlying3
 a3:=Tryz.isAgg3
 z3:=Tryz.sizeOf3
 v3:=Tryz.zeroValue3
 t4:=Tryz.underlying4
 a4:=Tryz.isAgg4
 z4:=Tryz.sizeOf4
 v4:=Tryz.zeroValue4
 t5:=Tryz.underlying5
 a5:=Tryz.isAgg5
 z5:=Tryz.sizeOf5
 v5:=Tryz.zeroValue5
 t9:=Tryz.underlying9
 a9:=Tryz.isAgg9
 z9:=Tryz.sizeOf9
 v9:=Tryz.zeroValue9
 t21:=Tryz.underlying21
 a21:=Tryz.isAgg21
 z21:=Tryz.sizeOf21
 v21:=Tryz.zeroValue21
 t46:=Tryz.underlying158
 a46:=Tryz.isAgg158
 z46:=Tryz.sizeOf158
 v46:=Tryz.zeroValue158
 t105:=Tryz.underlying135
 a105:=Tryz.isAgg135
 z105:=Tryz.sizeOf135
 v105:=Tryz.zeroValue135
 t116:=Tryz.underlying130
 a116:=Tryz.isAgg130
 z116:=Tryz.sizeOf130
 t117:=Tryz.underlying131
 a117:=Tryz.isAgg131
 z117:=Tryz.sizeOf131
 v117:=Tryz.zeroValue131
 t119:=Tryz.underlying179
 a119:=Tryz.isAgg179
 z119:=Tryz.sizeOf179
 t124:=Tryz.underlying134
 a124:=Tryz.isAgg134
 z124:=Tryz.sizeOf134
 v124:=Tryz.zeroValue134
 t138:=Tryz.underlying181
 a138:=Tryz.isAgg181
 z138:=Tryz.sizeOf181
 v138:=Tryz.zeroValue181
 t139:=Tryz.underlying182
 a139:=Tryz.isAgg182
 z139:=Tryz.sizeOf182
 v139:=Tryz.zeroValue182
 g3:=by kernel_rfl
 g4:=by kernel_rfl }
def Tryz.lays164_ren:Go.Shelf.Ren:=⟨fun|164=>50|197=>82|239=>83|260=>107|274=>108|275=>109|n=>n,fun|9=>9|4=>4|3=>3|5=>5|0=>0|21=>21|105=>135|156=>156|49=>155|157=>157|46=>158|159=>160|162=>163|160=>161|119=>179|139=>182|138=>181|208=>186|51=>173|206=>184|n=>n,fun|11=>5|12=>6|13=>7|3=>9|4=>10|n=>n⟩
theorem Tryz.lays164:Go.Proofs.Lays.n164 Tryz.prog Tryz.lays164_ren:={
 mixed:=by kernel_rfl
 f164:=Tryz.func50.trans (congrArg some (by kernel_rfl))
 f197:=Tryz.func82.trans (congrArg some (by kernel_rfl))
 f239:=Tryz.func83.trans (congrArg some (by kernel_rfl))
 f260:=Tryz.func107.trans (congrArg some (by kernel_rfl))
 f274:=Tryz.func108.trans (congrArg some (by kernel_rfl))
 f275:=Tryz.func109.trans (congrArg some (by kernel_rfl))
 t0:=Tryz.underlying0
 a0:=Tryz.isAgg0
 z0:=Tryz.sizeOf0
 v0:=Tryz.zeroValue0
 t3:=Tryz.underlying3
 a3:=Tryz.isAgg3
 z3:=Tryz.sizeOf3
 v3:=Tryz.zeroValue3
 t4:=Tryz.underlying4
 a4:=Tryz.isAgg4
 z4:=Tryz.sizeOf4
 v4:=Tryz.zeroValue4
 t5:=Tryz.underlying5
 a5:=Tryz.isAgg5
 z5:=Tryz.sizeOf5
 v5:=Tryz.zeroValue5
 t9:=Tryz.underlying9
 a9:=Tryz.isAgg9
 z9:=Tryz.sizeOf9
 v9:=Tryz.zeroValue9
 t21:=Tryz.underlying21
 a21:=Tryz.isAgg21
 z21:=Tryz.sizeOf21
 v21:=Tryz.zeroValue21
 t46:=Tryz.underlying158
 a46:=Tryz.isAgg158
 z46:=Tryz.sizeOf158
 v46:=Tryz.zeroValue158
 t49:=Tryz.underlying155
 a49:=Tryz.isAgg155
 z49:=Tryz.sizeOf155
 v49:=Tryz.zeroValue155
 t51:=Tryz.underlying173
 a51:=Tryz.isAgg173
 z51:=Tryz.sizeOf173
 v51:=Tryz.zeroValue173
 t105:=Tryz.underlying135
 a105:=Tryz.isAgg135
 z105:=Tryz.sizeOf135
 v105:=Tryz.zeroValue135
 t119:=Tryz.underlying179
 a119:=Tryz.isAgg179
 z119:=Tryz.sizeOf179
 t138:=Tryz.underlying181
 a138:=Tryz.isAgg181
 z138:=Tryz.sizeOf181
 v138:=Tryz.zeroValue181
 t139:=Tryz.underlying182
 a139:=Tryz.isAgg182
 z139:=Tryz.sizeOf182
 v139:=Tryz.zeroValue182
 t156:=Tryz.underlying156
 a156:=Tryz.isAgg156
 z156:=Tryz.sizeOf156
 t157:=Tryz.underlying157
 a157:=Tryz.isAgg157
 z157:=Tryz.sizeOf157
 v157:=Tryz.zeroValue157
 t159:=Tryz.underlying160
 a159:=Tryz.isAgg160
 z159:=Tryz.sizeOf160
 v159:=Tryz.zeroValue160
 t160:=Tryz.underlying161
 a160:=Tryz.isAgg161
 z160:=Tryz.sizeOf161
 v160:=Tryz.zeroValue161
 t162:=Tryz.underlying163
 a162:=Tryz.isAgg163
 z162:=Tryz.sizeOf163
 v162:=Tryz.zeroValue163
 t206:=Tryz.underlying184
 a206:=Tryz.isAgg184
 z206:=Tryz.sizeOf184
 v206:=Tryz.zeroValue184
 t208:=Tryz.underlying186
 a208:=Tryz.isAgg186
 z208:=Tryz.sizeOf186
 v208:=Tryz.zeroValue186
 g3:=by kernel_rfl
 g4:=by kernel_rfl
 g11:=by kernel_rfl
 g12:=by kernel_rfl
 g13:=by kernel_rfl }
def Tryz.lays99_ren:Go.Shelf.Ren:=⟨fun|99=>51|206=>84|n=>n,fun|9=>9|4=>4|3=>3|n=>n,fun|n=>n⟩
theorem Tryz.lays99:Go.Proofs.Lays.n99 Tryz.prog Tryz.lays99_ren:={
 mixed:=by kernel_rfl
 f99:=Tryz.func51.trans (congrArg some (by kernel_rfl))
 f206:=Tryz.func84.trans (congrArg some (by kernel_rfl))
 t3:=Tryz.underlying3
 a3:=Tryz.isAgg3
 z3:=Tryz.sizeOf3
 v3:=Tryz.zeroValue3
 t4:=Tryz.underlying4
 a4:=Tryz.isAgg4
 z4:=Tryz.sizeOf4
 v4:=Tryz.zeroValue4
 t9:=Tryz.underlying9
 a9:=Tryz.isAgg9
 z9:=Tryz.sizeOf9
 v9:=Tryz.zeroValue9 }
def Tryz.lays137_ren:Go.Shelf.Ren:=⟨fun|137=>52|217=>85|266=>110|n=>n,fun|9=>9|5=>5|3=>3|n=>n,fun|n=>n⟩
theorem Tryz.lays137:Go.Proofs.Lays.n137 Tryz.prog Tryz.lays137_ren:={
 mixed:=by kernel_rfl
 f137:=Tryz.func52.trans (congrArg some (by kernel_rfl))
 f217:=Tryz.func85.trans (congrArg some (by kernel_rfl))
 f266:=Tryz.func110.trans (congrArg some (by kernel_rfl))
 t3:=Tryz.underlying3
 a3:=Tryz.isAgg3
 z3:=Tryz.sizeOf3
 v3:=Tryz.zeroValue3
 t5:=Tryz.underlying5
 a5:=Tryz.isAgg5
 z5:=Tryz.sizeOf5
 v5:=Tryz.zeroValue5
 t9:=Tryz.underlying9
 a9:=Tryz.isAgg9
 z9:=Tryz.sizeOf9
 v9:=Tryz.zeroValue9 }
def Tryz.lays138_ren:Go.Shelf.Ren:=⟨fun|138=>67|195=>95|218=>96|143=>97|219=>106|217=>85|225=>123|224=>124|267=>125|266=>110|314=>139|n=>n,fun|9=>9|3=>3|4=>4|5=>5|0=>0|46=>158|146=>174|51=>173|n=>n,fun|1=>8|n=>n⟩
theorem Tryz.lays138:Go.Proofs.Lays.n138 Tryz.prog Tryz.lays138_ren:={
 mixed:=by kernel_rfl
 f138:=Tryz.func67.trans (congrArg some (by kernel_rfl))
 f143:=Tryz.func97.trans (congrArg some (by kernel_rfl))
 f195:=Tryz.func95.trans (congrArg some (by kernel_rfl))
 f217:=Tryz.func85.trans (congrArg some (by kernel_rfl))
 f218:=Tryz.func96.trans (congrArg some (by kernel_rfl))
 f219:=Tryz.func106.trans (congrArg some (by kernel_rfl))
 f224:=Tryz.func124.trans (congrArg some (by kernel_rfl))
 f225:=Tryz.func123.trans (congrArg some (by kernel_rfl))
 f266:=Tryz.func110.trans (congrArg some (by kernel_rfl))
 f267:=Tryz.func125.trans (congrArg some (by kernel_rfl))
 f314:=Tryz.func139.trans (congrArg some (by kernel_rfl))
 t0:=Tryz.underlying0
 a0:=Tryz.isAgg0
 z0:=Tryz.sizeOf0
 v0:=Tryz.zeroValue0
 t3:=Tryz.underlying3
 a3:=Tryz.isAgg3
 z3:=Tryz.sizeOf3
 v3:=Tryz.zeroValue3
 t4:=Tryz.underlying4
 a4:=Tryz.isAgg4
 z4:=Tryz.sizeOf4
 v4:=Tryz.zeroValue4
 t5:=Tryz.underlying5
 a5:=Tryz.isAgg5
 z5:=Tryz.sizeOf5
 v5:=Tryz.zeroValue5
 t9:=Tryz.underlying9
 a9:=Tryz.isAgg9
 z9:=Tryz.sizeOf9
 v9:=Tryz.zeroValue9
 t46:=Tryz.underlying158
 a46:=Tryz.isAgg158
 z46:=Tryz.sizeOf158
 v46:=Tryz.zeroValue158
 t51:=Tryz.underlying173
 a51:=Tryz.isAgg173
 z51:=Tryz.sizeOf173
 v51:=Tryz.zeroValue173
 t146:=Tryz.underlying174
 a146:=Tryz.isAgg174
 z146:=Tryz.sizeOf174
 v146:=Tryz.zeroValue174
 g1:=by kernel_rfl }
def Tryz.lays148_ren:Go.Shelf.Ren:=⟨fun|148=>68|222=>98|223=>99|269=>117|n=>n,fun|9=>9|3=>3|4=>4|5=>5|146=>174|51=>173|46=>158|n=>n,fun|n=>n⟩
theorem Tryz.lays148:Go.Proofs.Lays.n148 Tryz.prog Tryz.lays148_ren:={
 mixed:=by kernel_rfl
 f148:=Tryz.func68.trans (congrArg some (by kernel_rfl))
 f222:=Tryz.func98.trans (congrArg some (by kernel_rfl))
 f223:=Tryz.func99.trans (congrArg some (by kernel_rfl))
 f269:=Tryz.func117.trans (congrArg some (by kernel_rfl))
 t3:=Tryz.underlying3
 a3:=Tryz.isAgg3
 z3:=Tryz.sizeOf3
 v3:=Tryz.zeroValue3
 t4:=Tryz.underlying4
 a4:=Tryz.isAgg4
 z4:=Tryz.sizeOf4
 v4:=Tryz.zeroValue4
 t5:=Tryz.underlying5
 a5:=Tryz.isAgg5
 z5:=Tryz.sizeOf5
 v5:=Tryz.zeroValue5
 t9:=Tryz.underlying9
 a9:=Tryz.isAgg9
 z9:=Tryz.sizeOf9
 v9:=Tryz.zeroValue9
 t46:=Tryz.underlying158
 a46:=Tryz.isAgg158
 z46:=Tryz.sizeOf158
 v46:=Tryz.zeroValue158
 t51:=Tryz.underlying173
 a51:=Tryz.isAgg173
 z51:=Tryz.sizeOf173
 v51:=Tryz.zeroValue173
 t146:=Tryz.underlying174
 a146:=Tryz.isAgg174
 z146:=Tryz.sizeOf174
 v146:=Tryz.zeroValue174 }
end Go.Proofs
namespace Go.Proofs.YtgdilnljjgdinaaGreatDoor
open Go.RowKit Go.Shelf
def AscL (l:List UInt8):Prop:=∀ b ∈ l,b.toNat<128
theorem AscL.at {l:List UInt8} (h:AscL l):∀ (j:Nat) b,l[j]? = some b→b.toNat<128:=fun _ _ hj=>h _ (List.mem_of_getElem? hj)
theorem trimQ (s cs:ByteArray) (w:World) (hc:cs.size<1000) (ha:AscL cs.data.toList) :
  Calls Tryz.prog 48 #[.string s,.string cs] w fun e w'=>e = .returned (.string ⟨(s.data.toList.dropWhile (cs.data.toList.contains ·)).toArray⟩)∧Below w.heap.size w w' :=
 Any.strings_TrimLeft_laid Tryz.lays161 (by kernel_rfl) s cs w (by omega) ha.at
set_option maxRecDepth 100000 in
theorem leadQ (s cs:ByteArray) (w:World) (hs:s.size≤1000000000) (hc:cs.size<1000) (ha:AscL cs.data.toList) :
  Calls Tryz.prog 26 #[.string s,.string cs] w fun e w'=>e = .returned (.int .i64 (ldL s.data.toList cs.data.toList))∧Below w.heap.size w w':=by
 have HT:=fun u=>trimQ s cs u hc ha
 have hd:=ldL_drop s.data.toList cs.data.toList
 have hl:=len_list s
 have hz:(⟨(s.data.toList.dropWhile (cs.data.toList.contains ·)).toArray⟩:ByteArray).size=(s.data.toList.dropWhile (cs.data.toList.contains ·)).length:=by
  show (s.data.toList.dropWhile (cs.data.toList.contains ·)).toArray.size=_
  rw [List.size_toArray]
 generalize (⟨(s.data.toList.dropWhile (cs.data.toList.contains ·)).toArray⟩:ByteArray)=r at *
 generalize ldL s.data.toList cs.data.toList=n at *
 have hw:IntKind.i64.wrap ((s.size:Int)-(r.size:Int))=(n:Int):=by rw [IntKind.wrap_i64];omega
 clear hd hl hz ha hc hs
 go_enter Tryz.func26,Tryz.ntmps26
 go_wp2_with fail
 refine (HT _).mono ?_
 rintro e w1 ⟨rfl,hb⟩
 clear HT
 go_wp2
 go_ret
 exact ⟨rfl,hb⟩
theorem pfxQ (s p:ByteArray) (w:World):Calls Tryz.prog 51 #[.string s,.string p] w fun e w'=>e = .returned (.bool (p.data.toList.isPrefixOf s.data.toList))∧w'=w :=
 Any.strings_HasPrefix Tryz.lays99 s p w
theorem pfx2Q (s p:ByteArray) (w:World):Calls Tryz.prog 84 #[.string s,.string p] w fun e w'=>e = .returned (.bool (p.data.toList.isPrefixOf s.data.toList))∧w'=w :=
 Any.stringslite_HasPrefix (ρ:=Tryz.lays99_ren) { Tryz.lays99 with } s p w
theorem idxQ (s:ByteArray) (c:UInt8) (w:World):Calls Tryz.prog 52 #[.string s,.int .u8 (c.toNat:Int)] w fun e w'=>e = .returned (.int .i64 (Lib.indexByte s.data.toList c))∧w'=w:=by
 have:=Any.strings_IndexByte Tryz.lays137 s (c.toNat:Int) w
 rwa [Int.toNat_natCast,show c.toNat.toUInt8=c from UInt8.ofNat_toNat] at this
theorem cntQ (s:ByteArray) (w:World):Calls Tryz.prog 67 #[.string s,.string ⟨#[10]⟩] w fun e w'=>e = .returned (.int .i64 (s.data.toList.count 10:Nat))∧w'=w :=
 Any.strings_Count_one Tryz.lays138 s 10 w
theorem lastQ (s:ByteArray) (hs:s.size≤1000000000) (w:World):Calls Tryz.prog 68 #[.string s,.string ⟨#[10]⟩] w fun e w'=>e = .returned (.int .i64 (Lib.lastIndexByte s 10))∧w'=w :=
 Any.strings_LastIndex_one Tryz.lays148 s ⟨#[10]⟩ rfl (by omega) w
theorem foldQ (s t:ByteArray) (w:World) (hs:s.size≤1000000000) (h1:AscL s.data.toList) (h2:AscL t.data.toList) :
  Calls Tryz.prog 50 #[.string s,.string t] w fun e w'=>e = .returned (.bool (s.data.toList.map smB == t.data.toList.map smB))∧w'=w:=by
 rw [← fold_map h1 h2]
 exact Any.strings_EqualFold Tryz.lays164 s t w (by omega) h1.at h2.at
theorem cutPQ (s p:ByteArray) (w:World):Calls Tryz.prog 127 #[.string s,.string p] w fun e w' =>
  e = .returned (.tuple #[.string (if p.data.toList.isPrefixOf s.data.toList then s.extract p.size s.size else s),.bool (p.data.toList.isPrefixOf s.data.toList)])∧w'=w:=by
 have HP:=fun u=>pfx2Q s p u
 have hle:p.data.toList.isPrefixOf s.data.toList=true→p.size≤s.size:=fun h=>by
  have:=(List.isPrefixOf_iff_prefix.1 h).length_le
  rwa [len_list,len_list] at this
 have HC:∀ u,Calls Tryz.prog 140 #[.string s,.string p] u fun e w' =>
   e = .returned (.tuple #[.string (if p.data.toList.isPrefixOf s.data.toList then s.extract p.size s.size else s),.bool (p.data.toList.isPrefixOf s.data.toList)])∧w'=u:=by
  intro u
  cases hb:p.data.toList.isPrefixOf s.data.toList with
  | true =>
   rw [hb] at HP
   have hl:=hle hb
   clear hb hle
   go_enter Tryz.func140,Tryz.ntmps140
   go_wp2_with fail
   refine (HP _).mono ?_
   rintro e w1 ⟨rfl,rfl⟩
   go_wp2
   go_ret2
   exact ⟨rfl,rfl⟩
  | false =>
   rw [hb] at HP
   clear hb hle
   go_enter Tryz.func140,Tryz.ntmps140
   go_wp2_with fail
   refine (HP _).mono ?_
   rintro e w1 ⟨rfl,rfl⟩
   go_wp2
   go_ret2
   exact ⟨rfl,rfl⟩
 clear HP hle
 generalize (if p.data.toList.isPrefixOf s.data.toList=true then s.extract p.size s.size else s)=r at *
 generalize p.data.toList.isPrefixOf s.data.toList=b at *
 go_enter Tryz.func127,Tryz.ntmps127
 go_wp2_with fail
 refine (HC _).mono ?_
 rintro e w1 ⟨rfl,rfl⟩
 go_wp2
 go_ret2
 exact ⟨rfl,rfl⟩
end Go.Proofs.YtgdilnljjgdinaaGreatDoor
namespace Go.Proofs.YtgdilnljjgdinaaGreatDoor
open Go.RowKit Go.Shelf
theorem blB_asc:AscL blB:=by unfold AscL;decide
theorem dgB_asc:AscL dgB:=by unfold AscL;decide
theorem nmB_asc:AscL nmB:=by unfold AscL;decide +kernel
def sLen:Value→Nat
 | .string s=>s.size
 | _=>0
theorem idx_no {l:List UInt8} {c:UInt8} (h:Lib.indexByte l c<0):c ∉ l:=by
 induction l with
 | nil=>exact fun h=>by cases h
 | cons b l ih =>
  unfold Lib.indexByte at h
  have hg:=Lib.indexByte_ge l c
  by_cases hb:(b == c)=true
  ·rw [if_pos hb] at h;omega
  ·rw [if_neg hb] at h
   by_cases h1:(Lib.indexByte l c == -1)=true
   ·intro hm
    rcases List.mem_cons.1 hm with e|e
    ·exact hb (by simp [e])
    ·exact ih (by have:=beq_iff_eq.1 h1;omega) e
   ·rw [if_neg h1] at h
    have h1':¬ Lib.indexByte l c = -1:=fun e=>h1 (by simp [e])
    omega
theorem idx_at {l:List UInt8} {c:UInt8} (h:¬ Lib.indexByte l c<0):∃ a r,l=a++c::r∧c ∉ a∧Lib.indexByte l c=(a.length:Int):=by
 induction l with
 | nil=>exact absurd (show (-1:Int)<0 by decide) h
 | cons b l ih =>
  unfold Lib.indexByte at h ⊢
  by_cases hb:(b == c)=true
  ·rw [if_pos hb]
   have e:b=c:=by simpa using hb
   exact ⟨[],l,by rw [e];rfl,List.not_mem_nil,rfl⟩
  ·rw [if_neg hb] at h ⊢
   by_cases h1:(Lib.indexByte l c == -1)=true
   ·rw [if_pos h1] at h;omega
   ·rw [if_neg h1] at h ⊢
    have hg:=Lib.indexByte_ge l c
    have h1':¬ Lib.indexByte l c = -1:=fun e=>h1 (by simp [e])
    obtain ⟨a,r,e1,e2,e3⟩:=ih (by omega)
    refine ⟨b::a,r,by rw [e1];rfl,?_,by rw [e3];simp⟩
    intro hm
    rcases List.mem_cons.1 hm with e|e
    ·exact hb (by simp [e])
    ·exact e2 e
theorem trim_head (l:List UInt8):∀ b r,l.dropWhile (blB.contains ·)=b::r→blB.contains b=false:=by
 rw [← drop_ld];exact head_ld l blB
theorem gp_turn {l:List UInt8} {a r:List UInt8} (h:l=a++10::r) (hn:(10:UInt8) ∉ a) (hh:∃ t,l=92::t):gp false ((10::r).dropWhile (blB.contains ·))=gp false l:=by
 obtain ⟨t,ht⟩:=hh
 cases a with
 | nil=>rw [ht] at h;cases h
 | cons b a =>
  have hb:b=92:=by rw [ht] at h;exact (List.cons.inj h).1.symm
  subst hb
  rw [gp_blank,gp_ten,h]
  show _=gp true (a++10::r)
  rw [gp_line a r (fun m=>hn (List.mem_cons_of_mem _ m))]
theorem gp_none92 {l:List UInt8} (hn:(10:UInt8) ∉ l) (hh:∃ t,l=92::t):gp false l=[]:=by
 obtain ⟨t,rfl⟩:=hh
 show gp true t=[]
 exact gp_none t (fun m=>hn (List.mem_cons_of_mem _ m))
theorem pre92 {l:List UInt8}:([92]:List UInt8).isPrefixOf l=true↔∃ t,l=92::t:=by
 rw [List.isPrefixOf_iff_prefix]
 constructor
 ·rintro ⟨t,ht⟩;exact ⟨t,ht.symm⟩
 ·rintro ⟨t,ht⟩;exact ⟨t,ht.symm⟩
set_option maxRecDepth 100000 in
set_option maxHeartbeats 4000000 in
theorem gapQ (s:ByteArray) (w:World) (hs:s.size≤1000000000) :
  Calls Tryz.prog 29 #[.string s] w fun e w'=>e = .returned (.int .i64 (gpN s.data.toList:Nat))∧Below w.heap.size w w':=by
 have HT:∀ (x:ByteArray) (u:World),Calls Tryz.prog 48 #[.string x,.string ⟨#[32,9,10,13]⟩] u fun e w'=>e = .returned (.string ⟨(x.data.toList.dropWhile (blB.contains ·)).toArray⟩)∧Below u.heap.size u w' :=
  fun x u=>trimQ x ⟨#[32,9,10,13]⟩ u (by decide) blB_asc
 have HP:∀ (x:ByteArray) (u:World),Calls Tryz.prog 51 #[.string x,.string ⟨#[92]⟩] u fun e w'=>e = .returned (.bool (([92]:List UInt8).isPrefixOf x.data.toList))∧w'=u:=fun x u=>pfxQ x ⟨#[92]⟩ u
 have HI:∀ (x:ByteArray) (u:World),Calls Tryz.prog 52 #[.string x,.int .u8 10] u fun e w'=>e = .returned (.int .i64 (Lib.indexByte x.data.toList 10))∧w'=u:=fun x u=>idxQ x 10 u
 have hl:=len_list s
 have hgl:=gp_len false s.data.toList
 obtain ⟨N,hN⟩:∃ N,gpN s.data.toList=N:=⟨_,rfl⟩
 have HG0:=gp_blank s.data.toList
 have HR0:=trim_head s.data.toList
 have hz0:(⟨(s.data.toList.dropWhile (blB.contains ·)).toArray⟩:ByteArray).data.toList=s.data.toList.dropWhile (blB.contains ·):=rfl
 have hsz:(s.data.toList.dropWhile (blB.contains ·)).length≤s.size:=by have:=ldL_drop s.data.toList blB;omega
 have HN:Hid (s.size-(gp false s.data.toList).length=N):=by show _=_;rw [← hN];unfold gpN;rw [hl]
 have HGl:Hid ((gp false s.data.toList).length≤s.size):=by show _≤_;omega
 rw [hN]
 clear hN hgl
 obtain ⟨G,hG⟩:∃ G,gp false s.data.toList=G:=⟨_,rfl⟩
 rw [hG] at HN HGl HG0
 have HG1:Hid (gp false (⟨(s.data.toList.dropWhile (blB.contains ·)).toArray⟩:ByteArray).data.toList=G):=HG0
 have HR1:Hid (∀ b r,(⟨(s.data.toList.dropWhile (blB.contains ·)).toArray⟩:ByteArray).data.toList=b::r→blB.contains b=false):=HR0
 have hs1:(⟨(s.data.toList.dropWhile (blB.contains ·)).toArray⟩:ByteArray).size≤s.size:=by rw [← len_list,hz0];exact hsz
 clear HG0 HR0 hz0 hsz hG hl
 have HT0:=HT s
 generalize (⟨(s.data.toList.dropWhile (blB.contains ·)).toArray⟩:ByteArray)=r0 at *
 go_enter Tryz.func29,Tryz.ntmps29
 go_wp2_with fail
 refine (HT0 _).mono ?_
 rintro e w1 ⟨rfl,hb⟩
 clear HT0
 go_wp2
 go_loopw [3] (fun t wr=>∃ r:ByteArray,t = .string r∧r.size≤s.size∧Hid (gp false r.data.toList=G)∧Hid (∀ b q,r.data.toList=b::q→blB.contains b=false)∧Below w.heap.size w wr) (fun t _=>sLen t)
 case atStart=>exact ⟨r0,rfl,hs1,HG1,HR1,hb⟩
 case round =>
  clear HG1 HR1 hs1 hb
  obtain ⟨r,rfl,hrs,HG,HR,hb⟩:=hrel
  have HPr:=HP r
  have HIr:=HI r
  have hlr:=len_list r
  cases hp:([92]:List UInt8).isPrefixOf r.data.toList with
  | true =>
   rw [hp] at HPr
   obtain hh:=pre92.1 hp
   by_cases hi:Lib.indexByte r.data.toList 10<0
   ·have h0:G.length=0:=by rw [← HG.out,gp_none92 (idx_no hi) hh];rfl
    have hNs:N=s.size:=by have:=HN.out;omega
    subst hNs
    generalize Lib.indexByte r.data.toList 10=k at *
    clear HT HP HI HG HR HN HGl hp hh hlr
    go_wp2_with fail
    refine (HPr _).mono ?_
    rintro e w2 ⟨rfl,rfl⟩
    go_wp2_with fail
    refine (HIr _).mono ?_
    rintro e w2 ⟨rfl,rfl⟩
    go_wp2
    go_ret
    exact ⟨rfl,hb⟩
   ·obtain ⟨a,q,e1,e2,e3⟩:=idx_at hi
    rw [e3] at HIr
    have hla:a.length<r.size:=by rw [← hlr,e1,List.length_append,List.length_cons];omega
    have hal:(a.length:Int)≤(r.size:Int):=by omega
    have ha0:(0:Int)≤(a.length:Int):=by omega
    have he:(r.extract a.length r.size).data.toList=10::q:=by rw [ext_back,e1,List.drop_left]
    have HTr:=HT (r.extract a.length r.size)
    rw [he] at HTr
    have HG2:Hid (gp false (⟨((10::q).dropWhile (blB.contains ·)).toArray⟩:ByteArray).data.toList=G):=by
     show gp false ((10::q).dropWhile (blB.contains ·))=G
     rw [gp_turn e1 e2 hh,HG.out]
    have HR2:Hid (∀ b p,(⟨((10::q).dropWhile (blB.contains ·)).toArray⟩:ByteArray).data.toList=b::p→blB.contains b=false):=trim_head (10::q)
    have hlt:(⟨((10::q).dropWhile (blB.contains ·)).toArray⟩:ByteArray).size<r.size:=by
     have h1:=ldL_drop (10::q) blB
     have h2:ldL (10::q) blB=ldL q blB+1:=ldL_pos (by decide)
     have h3:(⟨((10::q).dropWhile (blB.contains ·)).toArray⟩:ByteArray).size=((10::q).dropWhile (blB.contains ·)).length:=by rw [← len_list]
     rw [h3]
     have h4:(10::q).length≤r.size:=by rw [← hlr,e1,List.length_append];omega
     omega
    generalize (⟨((10::q).dropWhile (blB.contains ·)).toArray⟩:ByteArray)=r2 at *
    clear HT HP HI HG HR HN HGl hp hh hlr e1 e2 e3 he hi hla
    generalize a.length=A at *
    go_wp2_with fail
    refine (HPr _).mono ?_
    rintro e w2 ⟨rfl,rfl⟩
    go_wp2_with fail
    refine (HIr _).mono ?_
    rintro e w2 ⟨rfl,rfl⟩
    go_wp2_with fail
    refine (HTr _).mono ?_
    rintro e w3 ⟨rfl,hb2⟩
    replace hb:=bel_tr hb hb2
    clear HTr HIr HPr hb2
    go_wp2
    go_roundw
    case rel=>exact ⟨r2,rfl,by omega,HG2,HR2,hb⟩
    case measure=>simpa [sLen] using hlt
  | false =>
   rw [hp] at HPr
   have hstay:gp false r.data.toList=r.data.toList:=by
    cases e:r.data.toList with
    | nil=>rfl
    | cons b q =>
     refine gp_stay (by rw [HR.out b q e];decide) ?_
     rintro rfl
     have:=pre92.2 ⟨q,e⟩
     rw [hp] at this;cases this
   have hNe:IntKind.i64.wrap ((s.size:Int)-(r.size:Int))=(N:Int):=by
    have h1:=HG.out
    rw [hstay] at h1
    have h2:=HN.out
    rw [← h1,hlr] at h2
    rw [IntKind.wrap_i64];omega
   clear HT HP HI HG HR HN HGl hp hlr hstay HIr
   go_wp2_with fail
   refine (HPr _).mono ?_
   rintro e w2 ⟨rfl,rfl⟩
   go_wp2
   go_ret
   exact ⟨rfl,hb⟩
end Go.Proofs.YtgdilnljjgdinaaGreatDoor
namespace Go.Proofs.YtgdilnljjgdinaaGreatDoor
open Go.RowKit Go.Shelf
-- the words' table as it lies
def tx (i:Nat):ByteArray:=⟨(wordT.getD i ([],0)).1.toArray⟩
def wd (i:Nat):Nat:=(wordT.getD i ([],0)).2
def wordA:Array Value:=(wordT.flatMap fun e=>[Value.string ⟨e.1.toArray⟩,Value.int .i64 (e.2:Nat)]).toArray
def Wds (w:World):Prop:=∃ t fr,w.heap[2]? = some (.cells wordA t fr)
theorem Wds.below {w w':World} (h:Wds w) (hb:Below w.heap.size w w'):Wds w':=by
 obtain ⟨t,fr,h⟩:=h
 exact ⟨t,fr,(hb.block _ (Array.getElem?_eq_some_iff.1 h).1).trans h⟩
theorem ixW:∀ (i:Nat),i<28→∀ (w:World),(Instr.index 97 (.agg wordA) (.int .i64 (i:Nat))).run Tryz.prog w = .ok (.agg #[.string (tx i),.int .i64 (wd i:Nat)]) w
 | 0,_,_=>by kernel_rfl
 | 1,_,_=>by kernel_rfl
 | 2,_,_=>by kernel_rfl
 | 3,_,_=>by kernel_rfl
 | 4,_,_=>by kernel_rfl
 | 5,_,_=>by kernel_rfl
 | 6,_,_=>by kernel_rfl
 | 7,_,_=>by kernel_rfl
 | 8,_,_=>by kernel_rfl
 | 9,_,_=>by kernel_rfl
 | 10,_,_=>by kernel_rfl
 | 11,_,_=>by kernel_rfl
 | 12,_,_=>by kernel_rfl
 | 13,_,_=>by kernel_rfl
 | 14,_,_=>by kernel_rfl
 | 15,_,_=>by kernel_rfl
 | 16,_,_=>by kernel_rfl
 | 17,_,_=>by kernel_rfl
 | 18,_,_=>by kernel_rfl
 | 19,_,_=>by kernel_rfl
 | 20,_,_=>by kernel_rfl
 | 21,_,_=>by kernel_rfl
 | 22,_,_=>by kernel_rfl
 | 23,_,_=>by kernel_rfl
 | 24,_,_=>by kernel_rfl
 | 25,_,_=>by kernel_rfl
 | 26,_,_=>by kernel_rfl
 | 27,_,_=>by kernel_rfl
 | n+28,h,_=>absurd h (by omega)
theorem Wds.step {w:World} (h:Wds w) {ops:Array Oper} {rest:List Oper} {o:Oper} {a:Act} {Q:Exit→Act→World→Prop} (hgd:o.guard=none) (x:Operand) (ho:o.op = .load 97 x) (hx:a.eval x = .pointer (some ⟨2,0,none⟩))
  (hK:wpList Tryz.prog ops Q rest (a.put o.dst (.agg wordA)) w):wpList Tryz.prog ops Q (o::rest) a w:=by
 obtain ⟨t,fr,h⟩:=h
 exact wpList_load_row hgd _ x ho _ hx t wordA fr _ h Tryz.underlying97 rfl (by kernel_rfl) hK
theorem tx_sm:∀ i,i<28→(tx i).data.toList.map smB=(wordT.getD i ([],0)).1:=by decide +kernel
theorem tx_asc:∀ i,i<28→AscL (tx i).data.toList:=by
 have:∀ i,i<28→((tx i).data.toList.all fun b=>decide (b.toNat<128))=true:=by decide +kernel
 intro i hi b hb
 exact of_decide_eq_true (List.all_eq_true.1 (this i hi) b hb)
theorem find_at {T:List (List UInt8 × Nat)} {t:List UInt8}:∀ (i:Nat),(∀ j,j<i→¬ (T.getD j ([],0)).1=t)→i<T.length→(T.getD i ([],0)).1=t→lookW T t=(T.getD i ([],0)).2:=by
 induction T with
 | nil=>intro i _ h;exact absurd h (Nat.not_lt_zero _)
 | cons e T ih =>
  intro i hno hi he
  cases i with
  | zero =>
   have h1:e.1=t:=he
   unfold lookW
   rw [List.find?_cons_of_pos (by simp [h1])]
   rfl
  | succ i =>
   have h0:¬ e.1=t:=hno 0 (by omega)
   have h1:=ih i (fun j hj=>by simpa using hno (j+1) (by omega)) (by simpa using hi) (by simpa using he)
   unfold lookW at h1 ⊢
   rw [List.find?_cons_of_neg (by simpa using h0)]
   simpa using h1
theorem find_no {t:List UInt8} (h:∀ j,j<28→¬ (wordT.getD j ([],0)).1=t):lookW wordT t=0:=by
 refine look_none fun e he e1=>?_
 obtain ⟨j,hj,rfl⟩:=List.mem_iff_getElem.1 he
 refine h j hj ?_
 rw [List.getD_eq_getElem?_getD,List.getElem?_eq_getElem hj,Option.getD_some,e1]
set_option maxRecDepth 100000 in
set_option maxHeartbeats 4000000 in
theorem lookQ (s:ByteArray) (w:World) (hs:s.size≤1000000000) (ha:AscL s.data.toList) (hW:Wds w) :
  Calls Tryz.prog 28 #[.string s] w fun e w'=>e = .returned (.int .i64 (lookW wordT (s.data.toList.map smB):Nat))∧Below w.heap.size w w':=by
 have HL:Hid (∀ i,(∀ j,j<i→¬ (wordT.getD j ([],0)).1=s.data.toList.map smB)→i<28→(wordT.getD i ([],0)).1=s.data.toList.map smB→lookW wordT (s.data.toList.map smB)=wd i):=fun i h1 h2 h3=>find_at i h1 h2 h3
 have HM:Hid ((∀ j,j<28→¬ (wordT.getD j ([],0)).1=s.data.toList.map smB)→lookW wordT (s.data.toList.map smB)=0):=fun h=>find_no h
 have HF:∀ i,i<28→∀ u,Calls Tryz.prog 50 #[.string s,.string (tx i)] u fun e w'=>e = .returned (.bool (s.data.toList.map smB == (wordT.getD i ([],0)).1))∧w'=u:=fun i hi u=>by
  have:=foldQ s (tx i) u hs ha (tx_asc i hi)
  rwa [tx_sm i hi] at this
 have hix:=ixW
 generalize lookW wordT (s.data.toList.map smB)=R at *
 generalize s.data.toList.map smB=t at *
 go_enter Tryz.func28,Tryz.ntmps28
 go_wp2_with (refine hW.step rfl _ rfl rfl ?_)
 go_loopw [6] (fun v wr=>∃ i:Nat,i≤28∧v = .int .i64 i∧Hid (∀ j,j<i→¬ (wordT.getD j ([],0)).1=t)∧Below w.heap.size w wr) (fun v _=>28-(intOf v).toNat)
 case atStart=>exact ⟨0,by omega,rfl,fun j hj=>absurd hj (Nat.not_lt_zero _),Below.refl _ _⟩
 case round =>
  obtain ⟨i,hi,rfl,HN,hb⟩:=hrel
  have hsz:=hb.size
  by_cases hlt:i<28
  ·have hil:(i:Int)<28:=by omega
   have hx:=hix i hlt
   have HFi:=HF i hlt
   have hw1:IntKind.i64.wrap ((i:Int)+1)=(i:Int)+1:=by rw [IntKind.wrap_i64];omega
   clear HF hix
   by_cases he:(wordT.getD i ([],0)).1=t
   ·have hR:=HL.out i HN.out hlt he
    have hbt:(t == (wordT.getD i ([],0)).1)=true:=beq_iff_eq.2 he.symm
    rw [hbt] at HFi
    subst hR
    clear HL HM HN hbt he
    go_wp2_with fail
    refine (HFi _).mono ?_
    rintro e w2 ⟨rfl,rfl⟩
    go_wp2
    go_ret
    exact ⟨rfl,hb.alloc hsz _⟩
   ·have HN2:Hid (∀ j,j<i+1→¬ (wordT.getD j ([],0)).1=t):=fun j hj=>by
     rcases (by omega:j<i∨j=i) with h|rfl
     ·exact HN.out j h
     ·exact he
    have hbt:(t == (wordT.getD i ([],0)).1)=false:=beq_false_of_ne (Ne.symm he)
    rw [hbt] at HFi
    clear HL HM HN hbt he
    go_wp2_with fail
    refine (HFi _).mono ?_
    rintro e w2 ⟨rfl,rfl⟩
    go_wp2
    go_roundw
    case rel=>exact ⟨i+1,by omega,by go_num,HN2,hb.alloc hsz _⟩
    case measure=>simp [intOf];omega
  ·have hil:¬ (i:Int)<28:=by omega
   obtain rfl:i=28:=by omega
   have hR:=HM.out HN.out
   subst hR
   clear HL HM HN HF hix
   go_wp2
   go_ret
   exact ⟨rfl,hb⟩
end Go.Proofs.YtgdilnljjgdinaaGreatDoor
namespace Go.Proofs.YtgdilnljjgdinaaGreatDoor
open Go.RowKit Go.Shelf
theorem leadN (s:ByteArray) (w:World) (hs:s.size≤1000000000):Calls Tryz.prog 26 #[.string s,.string ⟨#[65,66,67,68,69,70,71,72,73,74,75,76,77,78,79,80,81,82,83,84,85,86,87,88,89,90,97,98,99,100,101,102,103,104,105,106,107,108,109,110,111,112,113,114,115,116,117,118,119,120,121,122,48,49,50,51,52,53,54,55,56,57,33,34,35,36,37,38,40,41,44,46,59,63,64,95,39,96,123,125,126]⟩] w fun e w'=>e = .returned (.int .i64 (ldL s.data.toList nmB))∧Below w.heap.size w w' :=
 leadQ s ⟨#[65,66,67,68,69,70,71,72,73,74,75,76,77,78,79,80,81,82,83,84,85,86,87,88,89,90,97,98,99,100,101,102,103,104,105,106,107,108,109,110,111,112,113,114,115,116,117,118,119,120,121,122,48,49,50,51,52,53,54,55,56,57,33,34,35,36,37,38,40,41,44,46,59,63,64,95,39,96,123,125,126]⟩ w hs (by decide +kernel) nmB_asc
theorem leadG (s:ByteArray) (w:World) (hs:s.size≤1000000000):Calls Tryz.prog 26 #[.string s,.string ⟨#[48,49,50,51,52,53,54,55,56,57]⟩] w fun e w'=>e = .returned (.int .i64 (ldL s.data.toList dgB))∧Below w.heap.size w w' :=
 leadQ s ⟨#[48,49,50,51,52,53,54,55,56,57]⟩ w hs (by decide) dgB_asc
set_option maxRecDepth 100000 in
set_option maxHeartbeats 4000000 in
theorem begQ (s:ByteArray) (w:World) (hs:s.size≤1000000000) (h0:0<s.size) :
  Calls Tryz.prog 25 #[.string s] w fun e w'=>e = .returned (.bool (begL s.data.toList))∧Below w.heap.size w w':=by
 have HL:=fun u=>leadG (s.extract 0 1) u (by rw [size_extract _ _ _ (by omega)];omega)
 rw [ext_front] at HL
 have hd:s.data.toList=s.data.toList.getD 0 0::s.data.toList.drop 1:=by simpa using drop_byte h0
 have hby:=getD_get h0
 have hle:(1:Int)≤(s.size:Int):=by omega
 have hl0:(0:Int)<(s.size:Int):=by omega
 have hB:begL s.data.toList=(s.data.toList.getD 0 0 == 46 || dgB.contains (s.data.toList.getD 0 0)):=by
  rw [hd];rfl
 have hT:ldL (s.data.toList.take 1) dgB=if dgB.contains (s.data.toList.getD 0 0)=true then 1 else 0:=by
  rw [hd,List.take_succ_cons,List.take_zero]
  show _=if dgB.contains (s.data.toList.getD 0 0)=true then 1 else 0
  split
  ·rename_i h;rw [ldL_pos h];rfl
  ·rename_i h;rw [ldL_neg h]
 rw [hT] at HL
 rw [hB]
 clear hB hT hd
 generalize s.data.toList.getD 0 0=c at *
 by_cases h46:c=46
 ·subst h46
  have hby':((s[0]'h0).toNat:Int)=46:=hby
  clear hby HL
  go_enter Tryz.func25,Tryz.ntmps25
  go_wp2
  go_ret
  exact ⟨rfl,Below.refl _ _⟩
 ·have h46':¬ (c.toNat:Int)=46:=fun h=>h46 (UInt8.toNat_inj.1 (by have:(46:UInt8).toNat=46:=rfl;omega))
  rw [show (c == 46)=false from beq_false_of_ne h46,Bool.false_or]
  cases hc:dgB.contains c with
  | true =>
   rw [hc,if_pos rfl] at HL
   generalize (c.toNat:Int)=C at *
   have b46:(C == 46)=false:=by simpa using h46'
   clear hc
   go_enter Tryz.func25,Tryz.ntmps25
   go_wp2_with fail
   refine (HL _).mono ?_
   rintro e w1 ⟨rfl,hb⟩
   go_wp2
   go_ret
   exact ⟨rfl,hb⟩
  | false =>
   rw [hc,if_neg (by decide)] at HL
   generalize (c.toNat:Int)=C at *
   have b46:(C == 46)=false:=by simpa using h46'
   clear hc
   go_enter Tryz.func25,Tryz.ntmps25
   go_wp2_with fail
   refine (HL _).mono ?_
   rintro e w1 ⟨rfl,hb⟩
   go_wp2
   go_ret
   exact ⟨rfl,hb⟩
theorem asc_nm {l:List UInt8} (h:l.all (nmB.contains ·)=true):AscL l:=fun b hb=>nmB_asc b (by simpa using List.all_eq_true.1 h b hb)
set_option maxRecDepth 100000 in
set_option maxHeartbeats 4000000 in
theorem WordQ (s:ByteArray) (w:World) (hs:s.size≤100000000) (hW:Wds w) :
  Calls Tryz.prog 14 #[.string s] w fun e w'=>e = .returned (.int .i64 (wordL s.data.toList:Nat))∧Below w.heap.size w w':=by
 rw [← wordL_P]
 have HL:=fun u=>leadN s u (by omega)
 have hle:=ldL_le s.data.toList nmB
 have hall:=all_ld s.data.toList nmB
 rw [len_list] at hle
 have hfull:=ld_full s.data.toList nmB
 rw [len_list] at hfull
 obtain ⟨n,hn⟩:∃ n,ldL s.data.toList nmB=n:=⟨_,rfl⟩
 rw [hn] at HL hle hall hfull ⊢
 have hn0:(0:Int)≤(n:Int):=by omega
 have hnI:(n:Int)≤(s.size:Int):=by omega
 clear hn
 by_cases hF:n=s.size
 ·subst hF
  have e1:s.data.toList.take s.size=s.data.toList:=List.take_of_length_le (by simp)
  have e2:s.data.toList.drop s.size=[]:=List.drop_eq_nil_of_le (by simp)
  rw [e1] at hall
  rw [show wordP (s.data.toList.take s.size) (s.data.toList.drop s.size)=lookW wordT (s.data.toList.map smB) from by rw [e1,e2];rfl]
  have HK:=fun (u:World) (hu:Wds u)=>lookQ s u (by omega) (asc_nm hall) hu
  generalize lookW wordT (s.data.toList.map smB)=R at *
  clear hall hfull e1 e2
  go_enter Tryz.func14,Tryz.ntmps14
  go_wp2_with fail
  refine (HL _).mono ?_
  rintro e w1 ⟨rfl,hb⟩
  replace hW:=hW.below hb
  clear HL
  go_wp2_with fail
  refine (HK _ hW).mono ?_
  rintro e w2 ⟨rfl,hb2⟩
  replace hb:=bel_tr hb hb2
  clear HK hW hb2
  go_wp2
  go_ret
  exact ⟨rfl,hb⟩
 ·have hne:¬ (n:Int)=(s.size:Int):=by omega
  have bne:((n:Int) == (s.size:Int))=false:=by simpa using hne
  obtain ⟨x,hx⟩:∃ x,s.extract n s.size=x:=⟨_,rfl⟩
  have hxl:x.data.toList=s.data.toList.drop n:=by rw [← hx,ext_back]
  have hxs:x.size=s.size-n:=by rw [← hx,size_extract _ _ _ (Nat.le_refl _)]
  have HG:=fun u=>gapQ x u (by omega)
  have hgl:=gpN_le x.data.toList
  rw [len_list] at hgl
  obtain ⟨g,hg⟩:∃ g,gpN x.data.toList=g:=⟨_,rfl⟩
  have hdg:=drop_gp x.data.toList
  rw [hg] at HG hgl hdg
  obtain ⟨y,hy⟩:∃ y,s.extract (n+g) s.size=y:=⟨_,rfl⟩
  have hyl:y.data.toList=gp false (s.data.toList.drop n):=by
   rw [← hy,ext_back,← hxl,← hdg,hxl,List.drop_drop]
  have hys:y.size≤s.size:=by rw [← hy,size_extract _ _ _ (Nat.le_refl _)];omega
  have HY:=fun u=>leadN y u (by omega)
  have hfy:=ld_full y.data.toList nmB
  have hly:=ldL_le y.data.toList nmB
  rw [len_list] at hfy hly
  have hd0:¬ s.data.toList.drop n=[]:=fun h=>by
   have:=congrArg List.length h
   rw [List.length_drop,len_list] at this
   simp at this;omega
  have hwp:wordP (s.data.toList.take n) (s.data.toList.drop n)=if y.data.toList.all (nmB.contains ·)=true then lookW wordT ((s.data.toList.take n++32::y.data.toList).map smB) else 0:=by
   unfold wordP
   rw [if_neg hd0,hyl]
  rw [hwp]
  have hw1:IntKind.i64.wrap ((n:Int)+(g:Int))=(n:Int)+(g:Int):=by rw [IntKind.wrap_i64];omega
  have hng:(n:Int)+(g:Int)≤(s.size:Int):=by omega
  have hng0:(0:Int)≤(n:Int)+(g:Int):=by omega
  have hngN:((n:Int)+(g:Int)).toNat=n+g:=by omega
  clear hwp hd0 hg hdg hxl hF
  by_cases hA:y.data.toList.all (nmB.contains ·)=true
  ·rw [if_pos hA]
   have hm:ldL y.data.toList nmB=y.size:=hfy.2 hA
   rw [hm] at HY
   obtain ⟨z,hz⟩:∃ z,s.extract 0 n++(⟨#[32]⟩:ByteArray)++y=z:=⟨_,rfl⟩
   have hzl:z.data.toList=s.data.toList.take n++32::y.data.toList:=by
    rw [← hz,ByteArray.data_append,ByteArray.data_append,Array.toList_append,Array.toList_append,ext_front,List.append_assoc];rfl
   have hzs:z.size≤300000000:=by
    rw [← len_list,hzl,List.length_append,List.length_cons,List.length_take,len_list,len_list];omega
   have hza:AscL z.data.toList:=by
    rw [hzl]
    intro b hb
    rcases List.mem_append.1 hb with h|h
    ·exact asc_nm hall b h
    ·rcases List.mem_cons.1 h with h|h
     ·subst h;decide
     ·exact asc_nm hA b h
   have HK:=fun (u:World) (hu:Wds u)=>lookQ z u (by omega) hza hu
   rw [hzl] at HK
   generalize lookW wordT ((s.data.toList.take n++32::y.data.toList).map smB)=R at *
   clear hfull hall hA hfy hzl hza hyl hm hly
   have hyy:¬ (y.size:Int)<(y.size:Int):=by omega
   go_enter Tryz.func14,Tryz.ntmps14
   go_wp2_with fail
   refine (HL _).mono ?_
   rintro e w1 ⟨rfl,hb⟩
   replace hW:=hW.below hb
   clear HL
   go_wp2_with fail
   refine (HG _).mono ?_
   rintro e w2 ⟨rfl,hb2⟩
   replace hW:=hW.below hb2
   replace hb:=bel_tr hb hb2
   clear HG hb2
   go_wp2_with fail
   refine (HY _).mono ?_
   rintro e w3 ⟨rfl,hb3⟩
   replace hW:=hW.below hb3
   replace hb:=bel_tr hb hb3
   clear HY hb3
   go_wp2_with fail
   refine (HK _ hW).mono ?_
   rintro e w4 ⟨rfl,hb4⟩
   replace hb:=bel_tr hb hb4
   clear HK hW hb4
   go_wp2
   go_ret
   exact ⟨rfl,hb⟩
  ·rw [if_neg hA]
   have hm:ldL y.data.toList nmB<y.size:=by
    rcases Nat.lt_or_ge (ldL y.data.toList nmB) y.size with h|h
    ·exact h
    ·exact absurd (hfy.1 (by omega)) hA
   generalize ldL y.data.toList nmB=m at *
   have hmI:(m:Int)<(y.size:Int):=by omega
   clear hfull hall hA hfy hyl hm hly
   go_enter Tryz.func14,Tryz.ntmps14
   go_wp2_with fail
   refine (HL _).mono ?_
   rintro e w1 ⟨rfl,hb⟩
   clear HL
   go_wp2_with fail
   refine (HG _).mono ?_
   rintro e w2 ⟨rfl,hb2⟩
   replace hb:=bel_tr hb hb2
   clear HG hb2
   go_wp2_with fail
   refine (HY _).mono ?_
   rintro e w3 ⟨rfl,hb3⟩
   replace hb:=bel_tr hb hb3
   clear HY hb3
   go_wp2
   go_ret
   exact ⟨rfl,hb⟩
end Go.Proofs.YtgdilnljjgdinaaGreatDoor
namespace Go.Proofs.YtgdilnljjgdinaaGreatDoor
open Go.RowKit Go.Shelf
set_option maxRecDepth 100000 in
set_option maxHeartbeats 4000000 in
theorem idx32 (s:ByteArray) (t:Int) (w:World) (hne:([32] == s.toList)=false) (ht:Lib.indexByte s.data.toList 32=t):Calls Tryz.prog 106 #[.string s,.string ⟨#[32]⟩] w fun e w'=>e = .returned (.int .i64 t)∧w'=w:=by
 have HT:Hid (Lib.indexByte s.data.toList 32=t):=ht
 clear ht
 go_enter Tryz.func106,Tryz.ntmps106
 go_wp2_with fail
 refine (ibyteS _ _ _).mono ?_
 rintro e w' ⟨rfl,rfl⟩
 rw [show Lib.indexByte s.data.toList (((({ data:=#[32] }:ByteArray)[0]'(by decide)).toNat:Int).toNat.toUInt8)=t from HT.out]
 go_wp2
 go_ret
 exact ⟨rfl,rfl⟩
set_option maxRecDepth 100000 in
set_option maxHeartbeats 4000000 in
theorem cutN32 (s:ByteArray) (w:World) (h:(32:UInt8) ∉ s.data.toList):Calls Tryz.prog 49 #[.string s,.string ⟨#[32]⟩] w fun e w'=>e = .returned (.tuple #[.string s,.string ⟨#[]⟩,.bool false])∧Below w.heap.size w w':=by
 have k:Calls Tryz.prog 81 #[.string s,.string ⟨#[32]⟩] w fun e w'=>e = .returned (.tuple #[.string s,.string ⟨#[]⟩,.bool false])∧Below w.heap.size w w':=by
  go_enter Tryz.func81,Tryz.ntmps81
  go_wp2_with fail
  refine (idx32 s (-1) _ (str_off h) (ixb_none h)).mono ?_
  rintro e w' ⟨rfl,rfl⟩
  go_wp2
  go_ret3
  exact ⟨rfl,Below.refl _ _⟩
 go_enter Tryz.func49,Tryz.ntmps49
 go_wp2_with fail
 refine k.mono ?_
 rintro e w' ⟨rfl,hx⟩
 go_wp2
 go_ret3
 exact ⟨rfl,hx⟩
set_option maxRecDepth 100000 in
set_option maxHeartbeats 4000000 in
theorem cutY32 (s:ByteArray) (k:Nat) (w:World) (hne:([32] == s.toList)=false) (hk:Lib.indexByte s.data.toList 32=(k:Int)) (hs:s.size≤100000000) (hks:k<s.size):Calls Tryz.prog 49 #[.string s,.string ⟨#[32]⟩] w fun e w'=>e = .returned (.tuple #[.string (s.extract 0 k),.string (s.extract (k+1) s.size),.bool true])∧Below w.heap.size w w':=by
 have kk:Calls Tryz.prog 81 #[.string s,.string ⟨#[32]⟩] w fun e w'=>e = .returned (.tuple #[.string (s.extract 0 k),.string (s.extract (k+1) s.size),.bool true])∧Below w.heap.size w w':=by
  have hk1:(0:Int)≤(k:Int):=by omega
  have hk2:(k:Int)≤(s.size:Int):=by omega
  have hk3:(k:Int)+1≤(s.size:Int):=by omega
  have hw1:IntKind.i64.wrap ((k:Int)+1)=(k:Int)+1:=by rw [IntKind.wrap_i64];omega
  go_enter Tryz.func81,Tryz.ntmps81
  go_wp2_with fail
  refine (idx32 s k _ hne hk).mono ?_
  rintro e w' ⟨rfl,rfl⟩
  clear hk hne
  go_wp2
  go_region
  go_wp2
  go_ret3
  exact ⟨by simp,(Below.refl _ _).drew⟩
 go_enter Tryz.func49,Tryz.ntmps49
 go_wp2_with fail
 refine kk.mono ?_
 rintro e w' ⟨rfl,hx⟩
 go_wp2
 go_ret3
 exact ⟨rfl,hx⟩
def hS1:ByteArray:=⟨#[115,117,98,106,101,99,116]⟩
def hS2:ByteArray:=⟨#[116,111]⟩
def hS3:ByteArray:=⟨#[115,117,99,104]⟩
def hS4:ByteArray:=⟨#[116,104,97,116]⟩
theorem cut11 (w:World):Calls Tryz.prog 49 #[.string (tx 11),.string ⟨#[32]⟩] w fun e w'=>e = .returned (.tuple #[.string hS1,.string hS2,.bool true])∧Below w.heap.size w w':=by
 have h:=cutY32 (tx 11) 7 w (by decide +kernel) (by decide +kernel) (by decide +kernel) (by decide +kernel)
 rwa [show (tx 11).extract 0 7=hS1 by decide +kernel,show (tx 11).extract (7+1) (tx 11).size=hS2 by decide +kernel] at h
theorem cut12 (w:World):Calls Tryz.prog 49 #[.string (tx 12),.string ⟨#[32]⟩] w fun e w'=>e = .returned (.tuple #[.string hS3,.string hS4,.bool true])∧Below w.heap.size w w':=by
 have h:=cutY32 (tx 12) 4 w (by decide +kernel) (by decide +kernel) (by decide +kernel) (by decide +kernel)
 rwa [show (tx 12).extract 0 4=hS3 by decide +kernel,show (tx 12).extract (4+1) (tx 12).size=hS4 by decide +kernel] at h
theorem tx_32:∀ i,i<28→i≠11→i≠12→(32:UInt8) ∉ (tx i).data.toList:=by decide +kernel
theorem half_of (t:List UInt8):[[115,117,98,106,101,99,116],[116,111],[115,117,99,104],[116,104,97,116]].contains t=decide (t=[115,117,98,106,101,99,116]∨t=[116,111]∨t=[115,117,99,104]∨t=[116,104,97,116]):=by
 rw [Bool.eq_iff_iff]
 simp
set_option maxRecDepth 100000 in
set_option maxHeartbeats 8000000 in
theorem halfQ (s:ByteArray) (w:World) (hs:s.size≤100000000) (ha:AscL s.data.toList) (hW:Wds w) :
  Calls Tryz.prog 27 #[.string s] w fun e w'=>e = .returned (.bool (halfL s.data.toList))∧Below w.heap.size w w':=by
 have F1:∀ u,Calls Tryz.prog 50 #[.string s,.string hS1] u fun e w'=>e = .returned (.bool (s.data.toList.map smB == [115,117,98,106,101,99,116]))∧w'=u:=fun u=>foldQ s hS1 u (by omega) ha (by unfold AscL;decide +kernel)
 have F2:∀ u,Calls Tryz.prog 50 #[.string s,.string hS2] u fun e w'=>e = .returned (.bool (s.data.toList.map smB == [116,111]))∧w'=u:=fun u=>foldQ s hS2 u (by omega) ha (by unfold AscL;decide +kernel)
 have F3:∀ u,Calls Tryz.prog 50 #[.string s,.string hS3] u fun e w'=>e = .returned (.bool (s.data.toList.map smB == [115,117,99,104]))∧w'=u:=fun u=>foldQ s hS3 u (by omega) ha (by unfold AscL;decide +kernel)
 have F4:∀ u,Calls Tryz.prog 50 #[.string s,.string hS4] u fun e w'=>e = .returned (.bool (s.data.toList.map smB == [116,104,97,116]))∧w'=u:=fun u=>foldQ s hS4 u (by omega) ha (by unfold AscL;decide +kernel)
 have hR:halfL s.data.toList=decide (s.data.toList.map smB=[115,117,98,106,101,99,116]∨s.data.toList.map smB=[116,111]∨s.data.toList.map smB=[115,117,99,104]∨s.data.toList.map smB=[116,104,97,116]):=half_of _
 have HT:Hid ((s.data.toList.map smB=[115,117,98,106,101,99,116]∨s.data.toList.map smB=[116,111]∨s.data.toList.map smB=[115,117,99,104]∨s.data.toList.map smB=[116,104,97,116])→halfL s.data.toList=true):=fun h=>by rw [hR];exact decide_eq_true h
 have HF:Hid (¬ (s.data.toList.map smB=[115,117,98,106,101,99,116]∨s.data.toList.map smB=[116,111]∨s.data.toList.map smB=[115,117,99,104]∨s.data.toList.map smB=[116,104,97,116])→halfL s.data.toList=false):=fun h=>by rw [hR];exact decide_eq_false h
 clear hR
 generalize halfL s.data.toList=R at *
 have hix:=ixW
 have HC:=fun i (h:i<28) (h1:i≠11) (h2:i≠12) u=>cutN32 (tx i) u (tx_32 i h h1 h2)
 have C1:=cut11
 have C2:=cut12
 generalize s.data.toList.map smB=t at *
 generalize hT1:([115,117,98,106,101,99,116]:List UInt8)=T1 at *
 generalize hT2:([116,111]:List UInt8)=T2 at *
 generalize hT3:([115,117,99,104]:List UInt8)=T3 at *
 generalize hT4:([116,104,97,116]:List UInt8)=T4 at *
 generalize hS1=S1 at *
 generalize hS2=S2 at *
 generalize hS3=S3 at *
 generalize hS4=S4 at *
 clear hT1 hT2 hT3 hT4
 go_enter Tryz.func27,Tryz.ntmps27
 go_wp2_with (refine hW.step rfl _ rfl rfl ?_)
 go_loopw [9] (fun v wr=>∃ i:Nat,i≤28∧v = .int .i64 i∧Hid ((11<i→¬ t=T1∧¬ t=T2)∧(12<i→¬ t=T3∧¬ t=T4))∧Below w.heap.size w wr) (fun v _=>28-(intOf v).toNat)
 case atStart=>exact ⟨0,by omega,rfl,⟨fun h=>absurd h (by omega),fun h=>absurd h (by omega)⟩,Below.refl _ _⟩
 case round =>
  obtain ⟨i,hi,rfl,HN,hb⟩:=hrel
  have hsz:=hb.size
  by_cases hlt:i<28
  ·have hil:(i:Int)<28:=by omega
   have hx:=hix i hlt
   have hw1:IntKind.i64.wrap ((i:Int)+1)=(i:Int)+1:=by rw [IntKind.wrap_i64];omega
   clear hix
   by_cases h11:i=11
   ·rw [← h11] at C1
    have H11:Hid (i=11):=h11
    clear HC C2 F3 F4 h11
    by_cases e1:t=T1
    ·rw [show (t == T1)=true from beq_iff_eq.2 e1] at F1
     obtain rfl:=HT.out (.inl e1)
     clear HN e1
     go_wp2_with fail
     refine (C1 _).mono ?_
     rintro e w2 ⟨rfl,hb2⟩
     replace hb:=bel_tr (hb.alloc hsz _) hb2
     clear hb2
     go_wp2_with fail
     refine (F1 _).mono ?_
     rintro e w3 ⟨rfl,rfl⟩
     go_wp2
     go_ret
     exact ⟨rfl,hb⟩
    ·rw [show (t == T1)=false from beq_false_of_ne e1] at F1
     by_cases e2:t=T2
     ·rw [show (t == T2)=true from beq_iff_eq.2 e2] at F2
      obtain rfl:=HT.out (.inr (.inl e2))
      clear HN e1 e2
      go_wp2_with fail
      refine (C1 _).mono ?_
      rintro e w2 ⟨rfl,hb2⟩
      replace hb:=bel_tr (hb.alloc hsz _) hb2
      clear hb2
      go_wp2_with fail
      refine (F1 _).mono ?_
      rintro e w3 ⟨rfl,rfl⟩
      go_wp2_with fail
      refine (F2 _).mono ?_
      rintro e w4 ⟨rfl,rfl⟩
      go_wp2
      go_ret
      exact ⟨rfl,hb⟩
     ·rw [show (t == T2)=false from beq_false_of_ne e2] at F2
      clear HN
      have HN2:Hid ((11<i+1→¬ t=T1∧¬ t=T2)∧(12<i+1→¬ t=T3∧¬ t=T4)):=⟨fun _=>⟨e1,e2⟩,fun h=>absurd h (by have:=H11.out;omega)⟩
      clear e1 e2
      go_wp2_with fail
      refine (C1 _).mono ?_
      rintro e w2 ⟨rfl,hb2⟩
      replace hb:=bel_tr (hb.alloc hsz _) hb2
      clear hb2
      go_wp2_with fail
      refine (F1 _).mono ?_
      rintro e w3 ⟨rfl,rfl⟩
      go_wp2_with fail
      refine (F2 _).mono ?_
      rintro e w4 ⟨rfl,rfl⟩
      go_wp2
      go_roundw
      case rel=>exact ⟨i+1,by omega,by go_num,HN2,hb⟩
      case measure=>simp [intOf];omega
   ·by_cases h12:i=12
    ·rw [← h12] at C2
     have H12:Hid (i=12):=h12
     clear HC C1 F1 F2 h12
     by_cases e1:t=T3
     ·rw [show (t == T3)=true from beq_iff_eq.2 e1] at F3
      obtain rfl:=HT.out (.inr (.inr (.inl e1)))
      clear HN e1
      go_wp2_with fail
      refine (C2 _).mono ?_
      rintro e w2 ⟨rfl,hb2⟩
      replace hb:=bel_tr (hb.alloc hsz _) hb2
      clear hb2
      go_wp2_with fail
      refine (F3 _).mono ?_
      rintro e w3 ⟨rfl,rfl⟩
      go_wp2
      go_ret
      exact ⟨rfl,hb⟩
     ·rw [show (t == T3)=false from beq_false_of_ne e1] at F3
      by_cases e2:t=T4
      ·rw [show (t == T4)=true from beq_iff_eq.2 e2] at F4
       obtain rfl:=HT.out (.inr (.inr (.inr e2)))
       clear HN e1 e2
       go_wp2_with fail
       refine (C2 _).mono ?_
       rintro e w2 ⟨rfl,hb2⟩
       replace hb:=bel_tr (hb.alloc hsz _) hb2
       clear hb2
       go_wp2_with fail
       refine (F3 _).mono ?_
       rintro e w3 ⟨rfl,rfl⟩
       go_wp2_with fail
       refine (F4 _).mono ?_
       rintro e w4 ⟨rfl,rfl⟩
       go_wp2
       go_ret
       exact ⟨rfl,hb⟩
      ·rw [show (t == T4)=false from beq_false_of_ne e2] at F4
       have HN2:Hid ((11<i+1→¬ t=T1∧¬ t=T2)∧(12<i+1→¬ t=T3∧¬ t=T4)):=⟨fun _=>HN.out.1 (by have:=H12.out;omega),fun _=>⟨e1,e2⟩⟩
       clear HN e1 e2
       go_wp2_with fail
       refine (C2 _).mono ?_
       rintro e w2 ⟨rfl,hb2⟩
       replace hb:=bel_tr (hb.alloc hsz _) hb2
       clear hb2
       go_wp2_with fail
       refine (F3 _).mono ?_
       rintro e w3 ⟨rfl,rfl⟩
       go_wp2_with fail
       refine (F4 _).mono ?_
       rintro e w4 ⟨rfl,rfl⟩
       go_wp2
       go_roundw
       case rel=>exact ⟨i+1,by omega,by go_num,HN2,hb⟩
       case measure=>simp [intOf];omega
    ·have HCi:=HC i hlt h11 h12
     have HN2:Hid ((11<i+1→¬ t=T1∧¬ t=T2)∧(12<i+1→¬ t=T3∧¬ t=T4)):=⟨fun _=>HN.out.1 (by omega),fun _=>HN.out.2 (by omega)⟩
     clear HC C1 C2 F1 F2 F3 F4 HN
     go_wp2_with fail
     refine (HCi _).mono ?_
     rintro e w2 ⟨rfl,hb2⟩
     replace hb:=bel_tr (hb.alloc hsz _) hb2
     clear hb2
     go_wp2
     go_roundw
     case rel=>exact ⟨i+1,by omega,by go_num,HN2,hb⟩
     case measure=>simp [intOf];omega
  ·have hil:¬ (i:Int)<28:=by omega
   obtain rfl:i=28:=by omega
   obtain rfl:=HF.out (by
    have h1:=HN.out.1 (by omega)
    have h2:=HN.out.2 (by omega)
    rintro (h|h|h|h)
    ·exact h1.1 h
    ·exact h1.2 h
    ·exact h2.1 h
    ·exact h2.2 h)
   clear HC C1 C2 F1 F2 F3 F4 HN hix HT HF
   go_wp2
   go_ret
   exact ⟨rfl,hb⟩
end Go.Proofs.YtgdilnljjgdinaaGreatDoor
namespace Go.Proofs.YtgdilnljjgdinaaGreatDoor
open Go.RowKit Go.Shelf
theorem str_nil {s:ByteArray} (h:0<s.size):(s.toList == ([]:List UInt8))=false:=by
 rw [beq_eq_false_iff_ne,ByteArray.toList_eq]
 intro e
 have:=len_list s
 rw [e] at this
 simp at this;omega
theorem eq_nil {s:ByteArray} (h:¬ 0<s.size):s=⟨#[]⟩:=ba_eq (List.eq_nil_of_length_eq_zero (by rw [len_list];omega))
theorem list_nil {s:ByteArray} (h:0<s.size):(s.data.toList == [])=false:=by
 rw [beq_eq_false_iff_ne]
 intro e
 have:=len_list s
 rw [e] at this
 simp at this;omega
set_option maxRecDepth 100000 in
set_option maxHeartbeats 4000000 in
theorem LegalQ (s:ByteArray) (w:World) (hs:s.size≤100000000) (hW:Wds w) :
  Calls Tryz.prog 13 #[.string s] w fun e w'=>e = .returned (.bool (legalL s.data.toList))∧Below w.heap.size w w':=by
 by_cases h0:0<s.size
 ·have hne:=str_nil h0
  have hbe:∀ u,_:=fun u=>begQ s u (by omega) h0
  have hle:∀ u,_:=fun u=>leadN s u (by omega)
  have hwo:=fun (u:World) (hu:Wds u)=>WordQ s u hs hu
  have hha:=fun (ha:s.data.toList.all (nmB.contains ·)=true) (u:World) (hu:Wds u)=>halfQ s u hs (asc_nm ha) hu
  have hfull:=ld_full s.data.toList nmB
  have hll:=ldL_le s.data.toList nmB
  rw [len_list] at hfull hll
  have hL:legalL s.data.toList=(!begL s.data.toList && s.data.toList.all (nmB.contains ·) && wordL s.data.toList == 0 && !halfL s.data.toList):=by
   unfold legalL;rw [list_nil h0];simp
  rw [hL]
  clear hL
  cases hB:begL s.data.toList with
  | true =>
   rw [hB] at hbe
   simp only [Bool.not_true,Bool.false_and]
   clear hle hwo hha hfull hll hB
   go_enter Tryz.func13,Tryz.ntmps13
   go_wp2_with fail
   refine (hbe _).mono ?_
   rintro e w1 ⟨rfl,hb⟩
   go_wp2
   go_ret
   exact ⟨rfl,hb⟩
  | false =>
   rw [hB] at hbe
   simp only [Bool.not_false,Bool.true_and]
   clear hB
   cases hA:s.data.toList.all (nmB.contains ·) with
   | false =>
    simp only [Bool.false_and]
    have hlt:ldL s.data.toList nmB<s.size:=by
     rcases Nat.lt_or_ge (ldL s.data.toList nmB) s.size with h|h
     ·exact h
     ·have:=hfull.1 (by omega);rw [hA] at this;cases this
    generalize ldL s.data.toList nmB=n at *
    have hI:(n:Int)<(s.size:Int):=by omega
    clear hwo hha hfull hll hA
    go_enter Tryz.func13,Tryz.ntmps13
    go_wp2_with fail
    refine (hbe _).mono ?_
    rintro e w1 ⟨rfl,hb⟩
    go_wp2_with fail
    refine (hle _).mono ?_
    rintro e w2 ⟨rfl,hb2⟩
    replace hb:=bel_tr hb hb2
    go_wp2
    go_ret
    exact ⟨rfl,hb⟩
   | true =>
    simp only [Bool.true_and]
    have hn:ldL s.data.toList nmB=s.size:=hfull.2 hA
    rw [hn] at hle
    have hha:=hha hA
    have hI:¬ (s.size:Int)<(s.size:Int):=by omega
    clear hfull hll hA hn
    cases hz:(wordL s.data.toList == 0) with
    | false =>
     simp only [Bool.false_and]
     have hz':¬ wordL s.data.toList=0:=by simpa using hz
     generalize wordL s.data.toList=n at *
     have hzI:((n:Int) == 0)=false:=by simp;omega
     clear hha hz
     go_enter Tryz.func13,Tryz.ntmps13
     go_wp2_with fail
     refine (hbe _).mono ?_
     rintro e w1 ⟨rfl,hb⟩
     replace hW:=hW.below hb
     go_wp2_with fail
     refine (hle _).mono ?_
     rintro e w2 ⟨rfl,hb2⟩
     replace hW:=hW.below hb2
     replace hb:=bel_tr hb hb2
     go_wp2_with fail
     refine (hwo _ hW).mono ?_
     rintro e w3 ⟨rfl,hb3⟩
     replace hb:=bel_tr hb hb3
     go_wp2
     go_ret
     exact ⟨rfl,hb⟩
    | true =>
     simp only [Bool.true_and]
     have hz':wordL s.data.toList=0:=by simpa using hz
     rw [hz'] at hwo
     generalize halfL s.data.toList=R at *
     clear hz hz'
     go_enter Tryz.func13,Tryz.ntmps13
     go_wp2_with fail
     refine (hbe _).mono ?_
     rintro e w1 ⟨rfl,hb⟩
     replace hW:=hW.below hb
     go_wp2_with fail
     refine (hle _).mono ?_
     rintro e w2 ⟨rfl,hb2⟩
     replace hW:=hW.below hb2
     replace hb:=bel_tr hb hb2
     go_wp2_with fail
     refine (hwo _ hW).mono ?_
     rintro e w3 ⟨rfl,hb3⟩
     replace hW:=hW.below hb3
     replace hb:=bel_tr hb hb3
     go_wp2_with fail
     refine (hha _ hW).mono ?_
     rintro e w4 ⟨rfl,hb4⟩
     replace hb:=bel_tr hb hb4
     go_wp2
     go_ret
     exact ⟨rfl,hb⟩
 ·obtain rfl:=eq_nil h0
  clear h0
  go_enter Tryz.func13,Tryz.ntmps13
  go_wp2
  go_ret
  exact ⟨rfl,Below.refl _ _⟩
end Go.Proofs.YtgdilnljjgdinaaGreatDoor
