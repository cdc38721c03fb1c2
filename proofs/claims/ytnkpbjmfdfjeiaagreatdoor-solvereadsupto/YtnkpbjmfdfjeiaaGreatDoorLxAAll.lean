import Derived.Shelf.Strings.SlTrimAscii
import Derived.Shelf.Strings.Fold
import Derived.Shelf.Strings.Prefix
import Derived.Shelf.Small.Strs
import Derived.Shelf.Strings.Count
import Derived.Shelf.Strings.LastIndex
import Derived.Test.YtnkpbjmfdfjeiaaGreatDoorProg
import Derived.Test.YtnkpbjmfdfjeiaaGreatDoorLxWAll
import Derived.Test.YtnkpbjmfdfjeiaaGreatDoorRefXAll
namespace Go.Proofs
open Go.Shelf
def Tryz.lays161_ren:Go.Shelf.Ren:=⟨fun | 161=>59 | 231=>68 | 227=>69 | 233=>70 | 235=>71 | 228=>80 | 197=>81 | 151=>82 | 260=>98 | 152=>99 | 137=>118 | 119=>119 | 224=>65 | 225=>64 | 217=>63 | 266=>78 | n=>n,fun | 9=>9 | 4=>4 | 3=>3 | 5=>5 | 117=>131 | 116=>130 | 0=>0 | 124=>134 | 105=>141 | 21=>21 | 119=>183 | 46=>126 | 139=>186 | 138=>185 | n=>n,fun | 3=>5 | 4=>6 | n=>n⟩
theorem Tryz.lays161:Go.Proofs.Lays.n161 Tryz.prog Tryz.lays161_ren:={
 mixed:=by kernel_rfl
 f119:=Tryz.func119.trans (congrArg some (by kernel_rfl))
 f137:=Tryz.func118.trans (congrArg some (by kernel_rfl))
 f151:=Tryz.func82.trans (congrArg some (by kernel_rfl))
 f152:=Tryz.func99.trans (congrArg some (by kernel_rfl))
 f161:=Tryz.func59.trans (congrArg some (by kernel_rfl))
 f197:=Tryz.func81.trans (congrArg some (by kernel_rfl))
 f217:=Tryz.func63.trans (congrArg some (by kernel_rfl))
 f224:=Tryz.func65.trans (congrArg some (by kernel_rfl))
 f225:=Tryz.func64.trans (congrArg some (by kernel_rfl))
 f227:=Tryz.func69.trans (congrArg some (by kernel_rfl))
 f228:=Tryz.func80.trans (congrArg some (by kernel_rfl))
 f231:=Tryz.func68.trans (congrArg some (by kernel_rfl))
 f233:=Tryz.func70.trans (congrArg some (by kernel_rfl))
 f235:=Tryz.func71.trans (congrArg some (by kernel_rfl))
 f260:=Tryz.func98.trans (congrArg some (by kernel_rfl))
 f266:=Tryz.func78.trans (congrArg some (by kernel_rfl))
 t0:=Tryz.underlying0
 a0:=Tryz.isAgg0
 z0:=Tryz.sizeOf0
 v0:=Tryz.zeroValue0
 t3:=Tryz.underlying3
 a3:=Tryz.isAgg3
 z3:=Tryz.sizeOf3
 v3:=Tryz.zeroValue3
 t4:=Tryz.underlying4
 a4:=Tryz.isAgg4
 z4:=Tryz.sizeOf4
 v4:=Tryz.zeroValue4
 t5:=Tryz.underlying5
 a5:=Tryz.isAgg5
 z5:=Tryz.sizeOf5
 v5:=Tryz.zeroValue5
 t9:=Tryz.underlying9
 a9:=Tryz.isAgg9
 z9:=Tryz.sizeOf9
 v9:=Tryz.zeroValue9
 t21:=Tryz.underlying21
 a21:=Tryz.isAgg21
 z21:=Tryz.sizeOf21
 v21:=Tryz.zeroValue21
 t46:=Tryz.underlying126
 a46:=Tryz.isAgg126
 z46:=Tryz.sizeOf126
 v46:=Tryz.zeroValue126
 t105:=Tryz.underlying141
 a105:=Tryz.isAgg141
 z105:=Tryz.sizeOf141
 v105:=Tryz.zeroValue141
 t116:=Tryz.underlying130
 a116:=Tryz.isAgg130
 z116:=Tryz.sizeOf130
 t117:=Tryz.underlying131
 a117:=Tryz.isAgg131
 z117:=Tryz.sizeOf131
 v117:=Tryz.zeroValue131
 t119:=Tryz.underlying183
 a119:=Tryz.isAgg183
 z119:=Tryz.sizeOf183
 t124:=Tryz.underlying134
 a124:=Tryz.isAgg134
 z124:=Tryz.sizeOf134
 v124:=Tryz.zeroValue134
 t138:=Tryz.underlying185
 a138:=Tryz.isAgg185
 z138:=Tryz.sizeOf185
 v138:=Tryz.zeroValue185
 t139:=Tryz.underlying186
 a139:=Tryz.isAgg186
 z139:=Tryz.sizeOf186
 v139:=Tryz.zeroValue186
 g3:=by kernel_rfl
 g4:=by kernel_rfl }
def Tryz.lays99_ren:Go.Shelf.Ren:=⟨fun | 99=>126 | 206=>67 | n=>n,fun | 9=>9 | 4=>4 | 3=>3 | n=>n,fun | n=>n⟩
theorem Tryz.lays99:Go.Proofs.Lays.n99 Tryz.prog Tryz.lays99_ren:={
 mixed:=by kernel_rfl
 f99:=Tryz.func126.trans (congrArg some (by kernel_rfl))
 f206:=Tryz.func67.trans (congrArg some (by kernel_rfl))
 t3:=Tryz.underlying3
 a3:=Tryz.isAgg3
 z3:=Tryz.sizeOf3
 v3:=Tryz.zeroValue3
 t4:=Tryz.underlying4
 a4:=Tryz.isAgg4
 z4:=Tryz.sizeOf4
 v4:=Tryz.zeroValue4
 t9:=Tryz.underlying9
 a9:=Tryz.isAgg9
 z9:=Tryz.sizeOf9
 v9:=Tryz.zeroValue9 }
end Go.Proofs
namespace Go.Proofs.YtnkpbjmfdfjeiaaGreatDoor
open Go.RowKit Go.Shelf
def AscL (l:List UInt8):Prop:=∀ b ∈ l,b.toNat < 128
theorem AscL.at {l:List UInt8} (h:AscL l):∀ (j:Nat) b,l[j]? = some b→b.toNat < 128:=fun _ _ hj=>h _ (List.mem_of_getElem? hj)
theorem trimQ (s cs:ByteArray) (w:World) (hc:cs.size < 1000) (ha:AscL cs.data.toList) :
  Calls Tryz.prog 59 #[.string s,.string cs] w fun e w'=>e = .returned (.string ⟨(s.data.toList.dropWhile (cs.data.toList.contains ·)).toArray⟩)∧Below w.heap.size w w' :=
 Any.strings_TrimLeft_laid Tryz.lays161 (by kernel_rfl) s cs w (by omega) ha.at
theorem pfx2Q (s p:ByteArray) (w:World):Calls Tryz.prog 67 #[.string s,.string p] w fun e w'=>e = .returned (.bool (p.data.toList.isPrefixOf s.data.toList))∧w' = w :=
 Any.stringslite_HasPrefix (ρ:=Tryz.lays99_ren) { Tryz.lays99 with } s p w
theorem cutPQ (s p:ByteArray) (w:World):Calls Tryz.prog 44 #[.string s,.string p] w fun e w' =>
  e = .returned (.tuple #[.string (if p.data.toList.isPrefixOf s.data.toList then s.extract p.size s.size else s),.bool (p.data.toList.isPrefixOf s.data.toList)])∧w' = w:=by
 have HP:=fun u=>pfx2Q s p u
 have hle:p.data.toList.isPrefixOf s.data.toList = true→p.size≤s.size:=fun h=>by
  have:=(List.isPrefixOf_iff_prefix.1 h).length_le
  rwa [len_list,len_list] at this
 have HC:∀ u,Calls Tryz.prog 58 #[.string s,.string p] u fun e w' =>
   e = .returned (.tuple #[.string (if p.data.toList.isPrefixOf s.data.toList then s.extract p.size s.size else s),.bool (p.data.toList.isPrefixOf s.data.toList)])∧w' = u:=by
  intro u
  cases hb:p.data.toList.isPrefixOf s.data.toList with
  | true =>
   rw [hb] at HP
   have hl:=hle hb
   clear hb hle
   go_enter Tryz.func58,Tryz.ntmps58
   go_wp2_with fail
   refine (HP _).mono ?_
   rintro e w1 ⟨rfl,rfl⟩
   go_wp2
   go_ret2
   exact ⟨rfl,rfl⟩
  | false =>
   rw [hb] at HP
   clear hb hle
   go_enter Tryz.func58,Tryz.ntmps58
   go_wp2_with fail
   refine (HP _).mono ?_
   rintro e w1 ⟨rfl,rfl⟩
   go_wp2
   go_ret2
   exact ⟨rfl,rfl⟩
 clear HP hle
 generalize (if p.data.toList.isPrefixOf s.data.toList = true then s.extract p.size s.size else s) = r at *
 generalize p.data.toList.isPrefixOf s.data.toList = b at *
 go_enter Tryz.func44,Tryz.ntmps44
 go_wp2_with fail
 refine (HC _).mono ?_
 rintro e w1 ⟨rfl,rfl⟩
 go_wp2
 go_ret2
 exact ⟨rfl,rfl⟩
end Go.Proofs.YtnkpbjmfdfjeiaaGreatDoor
namespace Go.Proofs.YtnkpbjmfdfjeiaaGreatDoor
open Go.RowKit
theorem Rw.ret3 {fn:Func} {p q r:Tmp} {ty:TypeId} (h:fn.results = #[.cell p ty,.tmp q,.tmp r]) (tmps:Array Value) {w:World} {g:Nat} {cs:Array Value} (hr:Rw ty w g cs)
  (hp:tmps.getD p undef = .pointer (some ⟨g,0,none⟩)) {fs} (hu:Tryz.prog.underlying ty = some (.struct fs)) (hi:(Tryz.prog.info? ty).map (·.size) = some cs.size) :
  (results fn tmps).run Tryz.prog w = .ok (.tuple #[.agg cs,tmps.getD q undef,tmps.getD r undef]) w:=by
 have hp':tmps[p]?.getD undef = .pointer (some ⟨g,0,none⟩):=by simpa using hp
 simp [results,h,hp',asAddr,run_loadVar_row w g ty ty cs _ (.struct fs) hr hu rfl hi]
structure E3 (w:World):Prop where
 e5:∃ v,Errs w 2 v
 e8:∃ v,Errs w 4 v
 e3:∃ v,Errs w 3 v
theorem E3.below {w w':World} (h:E3 w) (hb:Below w.heap.size w w'):E3 w':=⟨h.e5.imp fun _ h=>h.below hb,h.e8.imp fun _ h=>h.below hb,h.e3.imp fun _ h=>h.below hb⟩
theorem E3.kb {w w':World} {F:Nat} {L:List TypeId} (h:E3 w) (k:Kb F L w w') (h1:2 < F) (h2:4 < F) (h3:3 < F):E3 w':=⟨h.e5.imp fun _ h=>h.kb k h1,h.e8.imp fun _ h=>h.kb k h2,h.e3.imp fun _ h=>h.kb k h3⟩
theorem E3.any {w:World} (h:E3 w) {g:Nat} (hg:g = 2∨g = 4∨g = 3):∃ v,Errs w g v:=by
 rcases hg with rfl | rfl | rfl
 ·exact h.e5
 ·exact h.e8
 ·exact h.e3
def nbT (l:List UInt8):List UInt8:=l.takeWhile (nbB.contains ·)
def nbD (l:List UInt8):List UInt8:=l.dropWhile (nbB.contains ·)
theorem nbTD (l:List UInt8):l = nbT l ++ nbD l:=(List.takeWhile_append_dropWhile ..).symm
theorem nbT_all (l:List UInt8):∀ b ∈ nbT l,nbB.contains b = true:=fun b hb=>by
 unfold nbT at hb
 induction l with
 | nil=>simp at hb
 | cons x l ih =>
  rw [List.takeWhile_cons] at hb
  split at hb
  ·rcases List.mem_cons.1 hb with rfl | h
   ·assumption
   ·exact ih h
  ·cases hb
theorem nbD_no (l:List UInt8):NoN (nbD l):=fun b t e=>by
 unfold nbD at e
 induction l with
 | nil=>simp at e
 | cons x l ih =>
  rw [List.dropWhile_cons] at e
  split at e
  ·exact ih e
  ·simp only [List.cons.injEq] at e
   rw [← e.1]
   rename_i h
   exact Bool.eq_false_iff.2 h
theorem nu_told {l m:List UInt8} {r:Rat} (h:Nu (32 :: l) r m):tq r = nbT l∧m = nbD l:=by
 obtain ⟨e,hm⟩:=h
 simp only [List.cons.injEq,true_and] at e
 have h2:=nbTD l
 rw [h2] at e
 obtain ⟨h3,h4⟩:=nb_split (nbD_no l) hm (nbT_all l) (tq_nb r) e
 exact ⟨h3.symm,h4.symm⟩
theorem take_app {x a b:List UInt8} {n:Nat} (h:x = a ++ b) (hn:a.length = n):x.take n = a:=by rw [h,← hn,List.take_left]
def CutR (t:ByteArray) (w:World) (e:Ending) (w':World):Prop :=
 ∃ (f:Bool) (c:Option Addr) (n k:Nat) (c':Option Addr) (n' k':Nat) (rest:ByteArray) (ok:Bool),e = .returned (.tuple #[.agg #[.bool f,.slice c n k,.slice c' n' k'],.string rest,.bool ok])∧Below w.heap.size w w'∧rest.size≤t.size ∧
  ((ok = true∧∃ r,Nu t.data.toList r rest.data.toList∧GR w' w.heap.size f c n k c' n' k' r 5000000)∨(ok = false∧∀ r m,¬ Nu t.data.toList r m))
theorem TB.off {w w':World} {R:Nat} (h:TB w) (o:Off R w w') (hR:9 < R):TB w' :=
 ⟨tab_below h.1 (o.below (B:=R) (Nat.le_refl _)) hR,by have:=o.size;have:=h.2;omega⟩
set_option maxRecDepth 100000 in
set_option maxHeartbeats 8000000 in
theorem cutNumQ (t:ByteArray) (w:World) (ht:t.size≤1048576) (hT:TB w) (hE:E3 w) (HN:∀ t:ByteArray,t.size≤1048576→NumA t) :
  Calls Tryz.prog 45 #[.string t] w fun e w'=>CutR t w e w':=by
 have R0:Rw 27 (w.alloc (.cells #[.bool false,.slice none 0 0,.slice none 0 0] 27)) w.heap.size #[.bool false,.slice none 0 0,.slice none 0 0]:=Rw.new _ _ _
 have hb0:=bel_d0 w (.cells #[.bool false,.slice none 0 0,.slice none 0 0] 27)
 have hTl:=hT.2
 replace hT:=hT.below hb0
 replace hE:=hE.below hb0
 go_enter Tryz.func45,Tryz.ntmps45
 go_wp2_with fail
 generalize w.alloc (.cells #[.bool false,.slice none 0 0,.slice none 0 0] 27) = W0 at *
 refine (cutPQ t ⟨#[32]⟩ W0).mono ?_
 rintro e w1 ⟨rfl,rfl⟩
 obtain ⟨b,hb,bh,hbh,HB⟩:∃ (b:Bool) (_:List.isPrefixOf [32] t.data.toList = b) (bh:ByteArray) (_:(if List.isPrefixOf [32] t.data.toList = true then t.extract 1 t.size else t) = bh),Hid (bh.size≤t.size∧(b = true→t.data.toList = 32 :: bh.data.toList)∧(b = false→∀ r m,¬ Nu t.data.toList r m)):=by
  refine ⟨_,rfl,_,rfl,?_⟩
  cases hp:List.isPrefixOf [32] t.data.toList with
  | true =>
   rw [if_pos rfl]
   obtain ⟨m,hm⟩:=List.isPrefixOf_iff_prefix.1 hp
   refine ⟨by rw [size_extract _ _ _ (Nat.le_refl _)];omega,fun _=>?_,fun h=>by cases h⟩
   rw [ext_back,← hm]
   rfl
  | false =>
   rw [if_neg (by decide)]
   refine ⟨Nat.le_refl _,(fun h=>by cases h),fun _ r m h=>?_⟩
   rw [h.1] at hp
   simp at hp
 rw [show ((⟨#[32]⟩:ByteArray).data.toList) = [32] from rfl,hb]
 rw [hb] at hbh
 rw [show (⟨#[32]⟩:ByteArray).size = 1 from rfl,hbh]
 clear hb hbh
 go_wp2_with fail
 refine (trimQ bh ⟨#[45,47,48,49,50,51,52,53,54,55,56,57]⟩ w1 (by decide) (by intro b hb;revert b;decide)).mono ?_
 rintro e w2 ⟨rfl,hx⟩
 replace R0:=R0.below hx
 replace hb0:=bel_tr hb0 hx
 have hTw:=hT.below hx
 replace hE:=hE.below hx
 clear hx hT
 obtain ⟨rs,hrs⟩:∃ rs:ByteArray,(⟨(bh.data.toList.dropWhile ((⟨#[45,47,48,49,50,51,52,53,54,55,56,57]⟩:ByteArray).data.toList.contains ·)).toArray⟩:ByteArray) = rs:=⟨_,rfl⟩
 rw [hrs]
 have HRS:Hid (rs.data.toList = nbD bh.data.toList):=by show _ = _;rw [← hrs];rfl
 clear hrs
 have hle:rs.size≤bh.size:=by
  have h1:=congrArg List.length (nbTD bh.data.toList)
  rw [List.length_append,← HRS.out,len_list,len_list] at h1
  omega
 obtain ⟨q,hq⟩:∃ q:Nat,q = bh.size - rs.size:=⟨_,rfl⟩
 have hqw:IntKind.i64.wrap ((bh.size:Int) - (rs.size:Int)) = (q:Int):=by have:=HB.out.1;rw [IntKind.wrap_i64];omega
 have hq0:(0:Int)≤(q:Int):=by omega
 have hqb:(q:Int)≤(bh.size:Int):=by omega
 obtain ⟨td,htd⟩:∃ td,bh.extract 0 q = td:=⟨_,rfl⟩
 have HTD:Hid (td.data.toList = nbT bh.data.toList):=by
  show _ = _
  rw [← htd,ext_front,hq]
  have h1:=nbTD bh.data.toList
  have h2:=congrArg List.length h1
  rw [List.length_append,← HRS.out,len_list,len_list] at h2
  have h3:(nbT bh.data.toList).length = bh.size - rs.size:=by omega
  exact take_app h1 h3
 have htz:td.size≤1048576:=by rw [← htd,size_extract _ _ _ (by omega)];have:=HB.out.1;omega
 have HRZ:Hid (rs.size≤t.size):=by have:=HB.out.1;show _≤_;omega
 clear hq hle
 rcases HN td htz with ⟨r,S,R,hS,_,hPs,_,hone⟩ | ⟨g,code,hgg,hF,_,_,hone⟩
 ·have HONE:Hid (∀ q,td = txtQ q→q = r):=hone
  clear hone HN
  go_wp2_with fail
  have hsz2:=R0.lt
  refine (hPs _ hTw).mono ?_
  rintro e w3 ⟨f,c,n,k,c',n',k',rfl,G,hx⟩
  replace R0:=R0.below hx
  replace hb0:=bel_tr hb0 hx
  have hTw3:=hTw.below hx
  have hsz:=Nat.le_of_lt R0.lt
  have hw2:=hx.size
  replace G:=(G.le hS).mono (B':=w.heap.size + 1) (by omega)
  clear hx hPs
  have r0:=R0.cell 0
  have r1:=R0.cell 1
  have r2:=R0.cell 2
  have rf0:=R0.frozen 0
  have rf1:=R0.frozen 1
  have rf2:=R0.frozen 2
  obtain ⟨R1,O1⟩:=R0.tri (.bool f) (.slice c n k) (.slice c' n' k')
  have G1:=G.off O1 (by omega)
  have hT1:=hTw3.off O1
  have h0:=R1.cell 0
  have h1:=R1.cell 1
  have h2:=R1.cell 2
  have hf0:=R1.frozen 0
  have hf1:=R1.frozen 1
  have hf2:=R1.frozen 2
  replace hb0:=hb0.trans (O1.below (Nat.le_refl _))
  cases b
  ·have HNO:Hid (∀ r m,¬ Nu t.data.toList r m):=HB.out.2.2 rfl
   clear HB HONE
   go_wp2_with fail
   clear r0 r1 r2 rf0 rf1 rf2
   generalize ((w3.setCell ⟨w.heap.size,0,none⟩ (.bool f)).setCell ⟨w.heap.size,1,none⟩ (.slice c n k)).setCell ⟨w.heap.size,2,none⟩ (.slice c' n' k') = w4 at *
   go_wp2
   obtain ⟨R2,O2⟩:=R1.tri (.bool false) (.slice none 0 0) (.slice none 0 0)
   refine bodyPost_ret (R2.ret3 Tryz.results45 _ rfl Tryz.underlying27 ratI) rfl ?_
   exact ⟨false,none,0,0,none,0,0,_,false,rfl,hb0.trans (O2.below (Nat.le_refl _)),Nat.zero_le _,.inr ⟨rfl,HNO.out⟩⟩
  ·have HL:Hid (t.data.toList = 32 :: bh.data.toList):=HB.out.2.1 rfl
   clear HB
   go_wp2_with fail
   clear r0 r1 r2 rf0 rf1 rf2
   generalize ((w3.setCell ⟨w.heap.size,0,none⟩ (.bool f)).setCell ⟨w.heap.size,1,none⟩ (.slice c n k)).setCell ⟨w.heap.size,2,none⟩ (.slice c' n' k') = w4 at *
   refine (textQ w4 (G1.le (S':=5000000) (Nat.le_refl _)).tr (by omega) (by omega) (hT1 (by omega))).mono ?_
   rintro e w5 ⟨rfl,hx⟩
   replace R1:=R1.below hx
   replace G1:=G1.below hx
   replace hb0:=bel_tr hb0 hx
   clear hx h0 h1 h2 hf0 hf1 hf2
   have h0:=R1.cell 0
   have h1:=R1.cell 1
   have h2:=R1.cell 2
   have hf0:=R1.frozen 0
   have hf1:=R1.frozen 1
   have hf2:=R1.frozen 2
   by_cases htx:txtQ r = td
   ·have HTX:Hid (txtQ r = td):=htx
    rw [htx]
    clear htx
    go_wp2
    obtain ⟨R2,O2⟩:=R1.tri (.bool f) (.slice c n k) (.slice c' n' k')
    have G2:=G1.off O2 (by omega)
    refine bodyPost_ret (R2.ret3 Tryz.results45 _ rfl Tryz.underlying27 ratI) rfl ?_
    refine ⟨f,c,n,k,c',n',k',_,true,rfl,hb0.trans (O2.below (Nat.le_refl _)),HRZ.out,.inl ⟨rfl,r,⟨?_,?_⟩,G2.mono (by omega)⟩⟩
    ·rw [HL.out,HRS.out]
     unfold tq
     rw [HTX.out,HTD.out,← nbTD]
    ·rw [HRS.out];exact nbD_no _
   ·have htb:((txtQ r).toList == td.toList) = false:=str_neq htx
    have htc:((txtQ r).toList != td.toList) = true:=by rw [bne,htb];rfl
    have HNO:Hid (∀ r m,¬ Nu t.data.toList r m):=fun r' m h=>by
     rw [HL.out] at h
     obtain ⟨x1,_⟩:=nu_told h
     have x2:td = txtQ r':=ba_eq (by rw [HTD.out,← x1];rfl)
     exact htx (by rw [x2,HONE.out r' x2])
    clear htx HONE
    generalize txtQ r = T at *
    go_wp2
    obtain ⟨R2,O2⟩:=R1.tri (.bool false) (.slice none 0 0) (.slice none 0 0)
    refine bodyPost_ret (R2.ret3 Tryz.results45 _ rfl Tryz.underlying27 ratI) rfl ?_
    exact ⟨false,none,0,0,none,0,0,_,false,rfl,hb0.trans (O2.below (Nat.le_refl _)),Nat.zero_le _,.inr ⟨rfl,HNO.out⟩⟩
 ·have HNO:Hid (∀ r m,¬ Nu t.data.toList r m):=fun r' m h=>by
   cases b
   ·exact HB.out.2.2 rfl _ _ h
   ·rw [HB.out.2.1 rfl] at h
    obtain ⟨x1,_⟩:=nu_told h
    exact hone r' (ba_eq (by rw [HTD.out,← x1];rfl))
  clear hone HN HB
  go_wp2_with fail
  obtain ⟨ev,Ev⟩:=hE.any hgg
  refine (hF _ ev Ev).mono ?_
  rintro e w3 ⟨rfl,hx⟩
  replace R0:=R0.below hx
  replace hb0:=bel_tr hb0 hx
  obtain ⟨ec,pp,rfl⟩:=Ev.below hx
  clear hx hF
  have r0:=R0.cell 0
  have r1:=R0.cell 1
  have r2:=R0.cell 2
  have rf0:=R0.frozen 0
  have rf1:=R0.frozen 1
  have rf2:=R0.frozen 2
  obtain ⟨R1,O1⟩:=R0.tri (.bool false) (.slice none 0 0) (.slice none 0 0)
  have h0:=R1.cell 0
  have h1:=R1.cell 1
  have h2:=R1.cell 2
  have hf0:=R1.frozen 0
  have hf1:=R1.frozen 1
  have hf2:=R1.frozen 2
  replace hb0:=hb0.trans (O1.below (Nat.le_refl _))
  cases b
  ·go_wp2_with fail
   clear r0 r1 r2 rf0 rf1 rf2
   generalize ((w3.setCell ⟨w.heap.size,0,none⟩ (.bool false)).setCell ⟨w.heap.size,1,none⟩ (.slice none 0 0)).setCell ⟨w.heap.size,2,none⟩ (.slice none 0 0) = w4 at *
   go_wp2
   obtain ⟨R2,O2⟩:=R1.tri (.bool false) (.slice none 0 0) (.slice none 0 0)
   refine bodyPost_ret (R2.ret3 Tryz.results45 _ rfl Tryz.underlying27 ratI) rfl ?_
   exact ⟨false,none,0,0,none,0,0,_,false,rfl,hb0.trans (O2.below (Nat.le_refl _)),Nat.zero_le _,.inr ⟨rfl,HNO.out⟩⟩
  ·go_wp2_with fail
   clear r0 r1 r2 rf0 rf1 rf2
   generalize ((w3.setCell ⟨w.heap.size,0,none⟩ (.bool false)).setCell ⟨w.heap.size,1,none⟩ (.slice none 0 0)).setCell ⟨w.heap.size,2,none⟩ (.slice none 0 0) = w4 at *
   go_wp2
   obtain ⟨R2,O2⟩:=R1.tri (.bool false) (.slice none 0 0) (.slice none 0 0)
   refine bodyPost_ret (R2.ret3 Tryz.results45 _ rfl Tryz.underlying27 ratI) rfl ?_
   exact ⟨false,none,0,0,none,0,0,_,false,rfl,hb0.trans (O2.below (Nat.le_refl _)),Nat.zero_le _,.inr ⟨rfl,HNO.out⟩⟩
end Go.Proofs.YtnkpbjmfdfjeiaaGreatDoor
