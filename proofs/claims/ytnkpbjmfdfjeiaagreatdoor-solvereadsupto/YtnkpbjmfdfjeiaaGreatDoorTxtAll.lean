import Derived.Test.YtnkpbjmfdfjeiaaGreatDoorDigAll
import Derived.Test.YtnkpbjmfdfjeiaaGreatDoorWhEAll
import Derived.Test.YtnkpbjmfdfjeiaaGreatDoorLawAll
import Derived.Test.YtnkpbjmfdfjeiaaGreatDoorRatAll
namespace Go.Proofs.YtnkpbjmfdfjeiaaGreatDoor
open Go.RowKit
def vl:List Int→Int
 | []=>0
 | d :: r=>d + 10 * vl r
theorem vl_decs (v:Nat):vl (decs v) = v:=by
 induction v using Nat.strongRecOn with
 | ind v ih =>
  by_cases hv:v = 0
  ·subst hv;rw [decs_zero];rfl
  ·rw [decs_pos hv]
   have h:=ih (v / 10) (by omega)
   simp only [vl];omega
theorem byt_str {xs:List Int} (h:∀ d ∈ xs,0≤d∧d < 256) {i:Nat} (hi:i < xs.length):byt (strOfNums xs) i = xs[i]:=by
 unfold byt
 rw [strOfNums_data,List.getD_eq_getElem?_getD,List.getElem?_map,List.getElem?_eq_getElem hi]
 have:=h xs[i] (List.getElem_mem hi)
 simp only [Option.map_some,Option.getD_some,UInt8.toNat_ofNat']
 omega
theorem vl_app (a:List Int) (d:Int) (xs:List Int) (h:xs = a ++ [d]):vl xs.reverse = vl a.reverse * 10 + d:=by
 subst h
 simp only [List.reverse_append,List.reverse_cons,List.reverse_nil,List.nil_append,List.cons_append,vl]
 omega
theorem rd_str (xs:List Int) (h:∀ d ∈ xs,48≤d∧d≤57) (k:Nat) (hk:k≤xs.length):rdF (strOfNums xs) 0 k = vl ((xs.take k).map (· - 48)).reverse:=by
 induction k with
 | zero=>rfl
 | succ k ih =>
  have hb:=byt_str (xs:=xs) (fun d hd=>by have:=h d hd;omega) (i:=k) (by omega)
  show rdF _ 0 k * 10 + (byt _ (0 + k) - 48) = _
  have e:=vl_app ((xs.take k).map (· - 48)) (xs[k] - 48) ((xs.take (k + 1)).map (· - 48)) (by rw [List.take_succ_eq_append_getElem (by omega),List.map_append];rfl)
  rw [Nat.zero_add,hb,ih (by omega),e]
theorem rd_str_all (xs:List Int) (h:∀ d ∈ xs,48≤d∧d≤57):rdF (strOfNums xs) 0 (strOfNums xs).size = vl (xs.map (· - 48)).reverse:=by
 rw [strOfNums_size,rd_str xs h _ (Nat.le_refl _),List.take_length]
def txtL (v:Nat):List Int:=if v = 0 then [48] else ((decs v).map (48 + ·)).reverse
theorem txt_txtL (v:Nat):txt v = strOfNums (txtL v):=by unfold txt txtL;split <;> rfl
theorem txtL_bd (v:Nat):∀ d ∈ txtL v,48≤d∧d≤57:=by
 intro d hd
 unfold txtL at hd
 split at hd
 ·simp at hd;omega
 ·rw [List.mem_reverse,List.mem_map] at hd
  obtain ⟨x,h1,rfl⟩:=hd
  have:=decs_bd v x h1
  omega
theorem txtL_len (v:Nat):0 < (txtL v).length:=by
 unfold txtL
 split
 ·decide
 ·rename_i h
  rw [List.length_reverse,List.length_map]
  rw [decs_pos h];simp
theorem rd_txt (v:Nat):rdF (txt v) 0 (txt v).size = v:=by
 rw [txt_txtL,rd_str_all _ (txtL_bd v)]
 unfold txtL
 split
 ·rename_i h;subst h;rfl
 ·rw [List.map_reverse,List.reverse_reverse,List.map_map]
  rw [show ((fun x:Int=>x - 48) ∘ fun x=>48 + x) = id by funext x;simp only [Function.comp,id];omega,List.map_id]
  exact vl_decs v
theorem digs_txt (v:Nat):Digs (txt v) (txt v).size:=by
 intro i hi
 rw [txt_txtL] at hi ⊢
 rw [strOfNums_size] at hi
 rw [byt_str (fun d hd=>by have:=txtL_bd v d hd;omega) hi]
 exact txtL_bd v _ (List.getElem_mem hi)
theorem size_txt (v:Nat):0 < (txt v).size:=by rw [txt_txtL,strOfNums_size];exact txtL_len v
theorem byt_app (t u:ByteArray) (h:0 < t.size):byt (t ++ u) 0 = byt t 0:=by
 obtain ⟨⟨l⟩⟩:=t
 obtain ⟨⟨r⟩⟩:=u
 cases l with
 | nil=>exact absurd h (by decide)
 | cons x l=>simp [byt,ByteArray.data_append]
theorem ext_app (t u:ByteArray) (h:t.size = 1):(t ++ u).extract 1 (t ++ u).size = u:=by
 obtain ⟨⟨l⟩⟩:=t
 obtain ⟨⟨r⟩⟩:=u
 have h1:l.length = 1:=h
 obtain ⟨y,rfl⟩:=List.length_eq_one_iff.1 h1
 apply ByteArray.ext
 rw [ByteArray.size_append]
 simp only [ByteArray.data_extract,ByteArray.data_append]
 have:({ data:={ toList:=[y] } }:ByteArray).size = 1:=rfl
 have:({ data:={ toList:=r } }:ByteArray).size = r.length:=rfl
 simp [*]
theorem cut_txtI (x:Int):cutS (txtI x) = (decide (x < 0),txt x.natAbs):=by
 have hd:=digs_txt x.natAbs 0 (size_txt _)
 have hs:=size_txt x.natAbs
 unfold txtI
 split
 ·rename_i h
  unfold cutS
  rw [if_pos ⟨by rw [ByteArray.size_append,strOfNums_size];simp only [List.length_cons,List.length_nil];omega,by rw [byt_app _ _ (by decide)];decide⟩,ext_app _ _ (by decide),decide_eq_true h]
 ·rename_i h
  unfold cutS
  rw [if_neg (by omega),if_neg (by omega),decide_eq_false h]
theorem parseT {x:Int} (w:World) (hs:(txtI x).size≤100000000) :
  Calls Tryz.prog 83 #[.string (txtI x)] w fun e w'=>∃ f c n d,e = .returned (.tuple #[.agg #[.bool f,.slice c n d],.nilIface])∧GI w' w.heap.size (.agg #[.bool f,.slice c n d]) x 100000000∧Below w.heap.size w w':=by
 have hz:=cutS_size (txtI x)
 have h:=parseI (txtI x) w hs (by rw [cut_txtI];exact digs_txt _) (by rw [cut_txtI];exact size_txt _)
 refine h.mono ?_
 rintro e w' ⟨v,rfl,G,hb⟩
 obtain ⟨f,c,n,d,rfl⟩:=G.form
 rw [cut_txtI] at G
 have e1:rdF (txt x.natAbs) 0 (txt x.natAbs).size = (x.natAbs:Int):=rd_txt _
 have G':GI w' w.heap.size _ (ws (decide (x < 0)) (rdF (txt x.natAbs) 0 (txt x.natAbs).size)) _:=G
 rw [e1,ws_sign] at G'
 exact ⟨f,c,n,d,rfl,G'.le (by rw [cut_txtI] at hz;exact Nat.le_trans hz hs),hb⟩
theorem parseTN (v:Nat) (w:World) (hs:(txt v).size≤100000000) :
  Calls Tryz.prog 84 #[.string (txt v)] w fun e w'=>∃ c n d,e = .returned (.tuple #[.slice c n d,.nilIface])∧Got w' w.heap.size (.slice c n d) (v:Int) 100000000∧Below w.heap.size w w':=by
 refine (parse_yes (txt v) w hs (digs_txt v) (size_txt v)).mono ?_
 rintro e w' ⟨c,n,k,rfl,G,hb⟩
 exact ⟨c,n,k,rfl,(G.val (rd_txt v)).le hs,hb⟩
end Go.Proofs.YtnkpbjmfdfjeiaaGreatDoor
namespace Go.Proofs.YtnkpbjmfdfjeiaaGreatDoor
open Go.RowKit Go.Shelf
theorem ixb_none {l:List UInt8} {c:UInt8} (h:c ∉ l):Lib.indexByte l c = -1:=by
 induction l with
 | nil=>rfl
 | cons b l ih =>
  simp only [List.mem_cons,not_or] at h
  have hb:(b == c) = false:=by simpa using fun e=>h.1 e.symm
  simp [Lib.indexByte,hb,ih h.2]
theorem ixb_at {l r:List UInt8} {c:UInt8} (h:c ∉ l):Lib.indexByte (l ++ c :: r) c = (l.length:Int):=by
 induction l with
 | nil=>simp [Lib.indexByte]
 | cons b l ih =>
  simp only [List.mem_cons,not_or] at h
  have hb:(b == c) = false:=by simpa using fun e=>h.1 e.symm
  have h2:=ih h.2
  simp only [List.cons_append,Lib.indexByte,hb,h2,List.length_cons]
  have:((l.length:Int) == -1) = false:=by simp
  simp [this]
theorem str_off {s:ByteArray} {c:UInt8} (h:c ∉ s.data.toList):([c] == s.toList) = false:=by
 rw [beq_eq_false_iff_ne,ByteArray.toList_eq]
 intro e
 exact h (by rw [← e];simp)
set_option maxRecDepth 100000 in
set_option maxHeartbeats 4000000 in
theorem idx47 (s:ByteArray) (t:Int) (w:World) (hne:([47] == s.toList) = false) (ht:Lib.indexByte s.data.toList 47 = t):Calls Tryz.prog 57 #[.string s,.string ⟨#[47]⟩] w fun e w'=>e = .returned (.int .i64 t)∧w' = w:=by
 have HT:Hid (Lib.indexByte s.data.toList 47 = t):=ht
 clear ht
 go_enter Tryz.func57,Tryz.ntmps57
 go_wp2_with fail
 refine (ibyteS _ _ _).mono ?_
 rintro e w' ⟨rfl,rfl⟩
 rw [show Lib.indexByte s.data.toList (((({ data:=#[47] }:ByteArray)[0]'(by decide)).toNat:Int).toNat.toUInt8) = t from HT.out]
 go_wp2
 go_ret
 exact ⟨rfl,rfl⟩
set_option maxRecDepth 100000 in
set_option maxHeartbeats 4000000 in
theorem cutN47 (s:ByteArray) (w:World) (h:(47:UInt8) ∉ s.data.toList):Calls Tryz.prog 24 #[.string s,.string ⟨#[47]⟩] w fun e w'=>e = .returned (.tuple #[.string s,.string ⟨#[]⟩,.bool false])∧Below w.heap.size w w':=by
 have k:Calls Tryz.prog 43 #[.string s,.string ⟨#[47]⟩] w fun e w'=>e = .returned (.tuple #[.string s,.string ⟨#[]⟩,.bool false])∧Below w.heap.size w w':=by
  go_enter Tryz.func43,Tryz.ntmps43
  go_wp2_with fail
  refine (idx47 s (-1) _ (str_off h) (ixb_none h)).mono ?_
  rintro e w' ⟨rfl,rfl⟩
  go_wp2
  go_ret3
  exact ⟨rfl,Below.refl _ _⟩
 go_enter Tryz.func24,Tryz.ntmps24
 go_wp2_with fail
 refine k.mono ?_
 rintro e w' ⟨rfl,hx⟩
 go_wp2
 go_ret3
 exact ⟨rfl,hx⟩
set_option maxRecDepth 100000 in
set_option maxHeartbeats 4000000 in
theorem idx46 (s:ByteArray) (t:Int) (w:World) (hne:([46] == s.toList) = false) (ht:Lib.indexByte s.data.toList 46 = t):Calls Tryz.prog 57 #[.string s,.string ⟨#[46]⟩] w fun e w'=>e = .returned (.int .i64 t)∧w' = w:=by
 have HT:Hid (Lib.indexByte s.data.toList 46 = t):=ht
 clear ht
 go_enter Tryz.func57,Tryz.ntmps57
 go_wp2_with fail
 refine (ibyteS _ _ _).mono ?_
 rintro e w' ⟨rfl,rfl⟩
 rw [show Lib.indexByte s.data.toList (((({ data:=#[46] }:ByteArray)[0]'(by decide)).toNat:Int).toNat.toUInt8) = t from HT.out]
 go_wp2
 go_ret
 exact ⟨rfl,rfl⟩
set_option maxRecDepth 100000 in
set_option maxHeartbeats 4000000 in
theorem cutN46 (s:ByteArray) (w:World) (h:(46:UInt8) ∉ s.data.toList):Calls Tryz.prog 24 #[.string s,.string ⟨#[46]⟩] w fun e w'=>e = .returned (.tuple #[.string s,.string ⟨#[]⟩,.bool false])∧Below w.heap.size w w':=by
 have k:Calls Tryz.prog 43 #[.string s,.string ⟨#[46]⟩] w fun e w'=>e = .returned (.tuple #[.string s,.string ⟨#[]⟩,.bool false])∧Below w.heap.size w w':=by
  go_enter Tryz.func43,Tryz.ntmps43
  go_wp2_with fail
  refine (idx46 s (-1) _ (str_off h) (ixb_none h)).mono ?_
  rintro e w' ⟨rfl,rfl⟩
  go_wp2
  go_ret3
  exact ⟨rfl,Below.refl _ _⟩
 go_enter Tryz.func24,Tryz.ntmps24
 go_wp2_with fail
 refine k.mono ?_
 rintro e w' ⟨rfl,hx⟩
 go_wp2
 go_ret3
 exact ⟨rfl,hx⟩
set_option maxRecDepth 100000 in
set_option maxHeartbeats 4000000 in
theorem cutY47 (s:ByteArray) (k:Nat) (w:World) (hne:([47] == s.toList) = false) (hk:Lib.indexByte s.data.toList 47 = (k:Int)) (hs:s.size≤100000000) (hks:k < s.size):Calls Tryz.prog 24 #[.string s,.string ⟨#[47]⟩] w fun e w'=>e = .returned (.tuple #[.string (s.extract 0 k),.string (s.extract (k + 1) s.size),.bool true])∧Below w.heap.size w w':=by
 have kk:Calls Tryz.prog 43 #[.string s,.string ⟨#[47]⟩] w fun e w'=>e = .returned (.tuple #[.string (s.extract 0 k),.string (s.extract (k + 1) s.size),.bool true])∧Below w.heap.size w w':=by
  have hk1:(0:Int)≤(k:Int):=by omega
  have hk2:(k:Int)≤(s.size:Int):=by omega
  have hk3:(k:Int) + 1≤(s.size:Int):=by omega
  have hw1:IntKind.i64.wrap ((k:Int) + 1) = (k:Int) + 1:=by rw [IntKind.wrap_i64];omega
  go_enter Tryz.func43,Tryz.ntmps43
  go_wp2_with fail
  refine (idx47 s k _ hne hk).mono ?_
  rintro e w' ⟨rfl,rfl⟩
  clear hk hne
  go_wp2
  go_region
  go_wp2
  go_ret3
  exact ⟨by simp,(Below.refl _ _).drew⟩
 go_enter Tryz.func24,Tryz.ntmps24
 go_wp2_with fail
 refine kk.mono ?_
 rintro e w' ⟨rfl,hx⟩
 go_wp2
 go_ret3
 exact ⟨rfl,hx⟩
end Go.Proofs.YtnkpbjmfdfjeiaaGreatDoor
namespace Go.Proofs.YtnkpbjmfdfjeiaaGreatDoor
open Go.RowKit Go.Shelf
theorem Got.ti' {w:World} {B:Nat} {a:Option Addr} {n c:Nat} {x:Int} {S:Nat} (h:Got w B (.slice a n c) x S):TI w false a n c x S:=⟨_,h.num,rfl⟩
set_option maxHeartbeats 4000000 in
theorem quotT {x:Int} {v S:Nat} (w:World) (h1:(txtI x).size≤100000000) (h2:(txt v).size≤100000000) (LX:(x.natAbs:Int) < pw S) (LV:(v:Int) < pw S) (hv:v ≠ 0) (hS:S≤7000000) (hT:TB w) :
  Calls Tryz.prog 72 #[.string (txtI x),.string (txt v)] w fun e w'=>∃ f c n k c' n' k',e = .returned (.tuple #[.agg #[.bool f,.slice c n k,.slice c' n' k'],.nilIface])∧GR w' w.heap.size f c n k c' n' k' (Rat.divInt x v) (S)∧Below w.heap.size w w':=by
 have R0:=var3_new w (.bool false) (.slice none 0 0) (.slice none 0 0) 27
 have hb0:=bel_d0 w (.cells #[.bool false,.slice none 0 0,.slice none 0 0] 27)
 have hsz:w.heap.size + 1≤(w.alloc (.cells #[.bool false,.slice none 0 0,.slice none 0 0] 27)).heap.size:=by simp
 replace hT:=hT.below hb0
 go_enter Tryz.func72,Tryz.ntmps72
 go_wp2_with fail
 generalize w.alloc (.cells #[.bool false,.slice none 0 0,.slice none 0 0] 27) = W0 at *
 refine (parseT (x:=x) _ h1).mono ?_
 rintro e w1 ⟨f1,c1,n1,k1,rfl,K1,hx⟩
 replace K1:=K1.mono (B':=w.heap.size + 1) hsz
 replace hT:=hT.below hx
 replace R0:=R0.below hx
 replace hb0:=bel_tr hb0 hx
 replace hsz:=Nat.le_trans hsz (Below.size hx)
 clear hx
 replace K1:=K1.shrink LX
 have hx:=bel_d0 w1 (.cells #[.bool f1,.slice c1 n1 k1] 25)
 replace hT:=hT.below hx
 replace K1:=K1.below hx
 replace R0:=R0.below hx
 replace hb0:=bel_tr hb0 hx
 replace hsz:=Nat.le_trans hsz (Below.size hx)
 have Vn:=var2_new w1 (.bool f1) (.slice c1 n1 k1) 25
 clear hx
 go_wp2_with fail
 generalize w1.alloc (.cells #[.bool f1,.slice c1 n1 k1] 25) = w2 at *
 refine (parseTN v _ h2).mono ?_
 rintro e w3 ⟨c2,n2,k2,rfl,G2,hx⟩
 replace G2:=G2.mono (B':=w.heap.size + 1) hsz
 replace hT:=hT.below hx
 replace K1:=K1.below hx
 replace R0:=R0.below hx
 replace Vn:=Vn.below hx
 replace hb0:=bel_tr hb0 hx
 replace hsz:=Nat.le_trans hsz (Below.size hx)
 clear hx
 replace G2:=G2.shrink LV
 obtain ⟨vnc0,vnc1,vnc2,vnc3⟩:=id Vn
 go_wp2_with fail
 refine (makeQ _ K1.ti G2.ti' (by omega) hS hT).mono ?_
 rintro e w4 ⟨f5,c5,n5,k5,d5,m5,l5,rfl,G5,hx⟩
 replace G5:=G5.mono (B':=w.heap.size + 1) hsz
 clear vnc0 vnc1 vnc2 vnc3
 replace hT:=hT.below hx
 replace K1:=K1.below hx
 replace G2:=G2.below hx
 replace R0:=R0.below hx
 replace Vn:=Vn.below hx
 replace hb0:=bel_tr hb0 hx
 replace hsz:=Nat.le_trans hsz (Below.size hx)
 clear hx
 clear K1
 clear G2
 clear Vn
 clear hT
 obtain ⟨r0c0,r0c1,r0c2,r0c3,r0c4,r0c5⟩:=id R0
 obtain ⟨V,OO⟩:=R0.set (.bool f5) (.slice c5 n5 k5) (.slice d5 m5 l5)
 have hw:=hb0.trans (OO.below (B:=w.heap.size) (by omega))
 have GF:=G5.off OO (by omega)
 clear G5
 clear R0 OO hb0
 go_wp2
 refine bodyPost_ret (v:=.tuple #[.agg #[.bool f5,.slice c5 n5 k5,.slice d5 m5 l5],.nilIface]) (by simp [results,Tryz.results72,go_sem,V.c0,V.c1,V.c2]) rfl ⟨_,_,_,_,_,_,_,rfl,GF.mono (by omega),hw⟩
theorem ext_ab (a b:ByteArray) (c:UInt8):(a ++ ⟨#[c]⟩ ++ b).extract 0 a.size = a∧(a ++ ⟨#[c]⟩ ++ b).extract (a.size + 1) (a ++ ⟨#[c]⟩ ++ b).size = b:=by
 obtain ⟨⟨l⟩⟩:=a
 obtain ⟨⟨r⟩⟩:=b
 have e1:({ data:={ toList:=l } }:ByteArray).size = l.length:=rfl
 have e2:({ data:={ toList:=r } }:ByteArray).size = r.length:=rfl
 constructor
 ·apply ByteArray.ext
  simp only [ByteArray.data_extract,ByteArray.data_append,e1]
  simp
 ·apply ByteArray.ext
  rw [ByteArray.size_append,ByteArray.size_append]
  simp only [ByteArray.data_extract,ByteArray.data_append,e1,e2]
  have e3:({ data:=#[c] }:ByteArray).size = 1:=rfl
  simp [e3]
theorem txt_mem (v:Nat) {b:UInt8} (h:b ∈ (txt v).data.toList):48≤b.toNat∧b.toNat≤57:=by
 obtain ⟨i,hi,e⟩:=List.getElem_of_mem h
 have h1:=digs_txt v i (by simpa using hi)
 unfold byt at h1
 simp only [List.getD,List.getElem?_eq_getElem hi,Option.getD_some,e] at h1
 omega
theorem txtI_mem (x:Int) {b:UInt8} (h:b ∈ (txtI x).data.toList):b.toNat = 45∨48≤b.toNat∧b.toNat≤57:=by
 unfold txtI at h
 split at h
 ·rw [ByteArray.data_append,Array.toList_append,List.mem_append] at h
  rcases h with h | h
  ·left
   have:b ∈ ([45]:List UInt8):=h
   simp at this;subst this;rfl
  ·exact .inr (txt_mem _ h)
 ·exact .inr (txt_mem _ h)
theorem txtI_pos (x:Int):0 < (txtI x).size:=by
 have:=size_txt x.natAbs
 unfold txtI;split
 ·rw [ByteArray.size_append];omega
 ·exact this
set_option maxHeartbeats 4000000 in
theorem parseQT {x:Int} {v S:Nat} (w:World) (hz:(txtI x ++ ⟨#[47]⟩ ++ txt v).size≤100000000) (LX:(x.natAbs:Int) < pw S) (LV:(v:Int) < pw S) (hv:v ≠ 0) (hS:S≤7000000) (hT:TB w) :
  Calls Tryz.prog 60 #[.string (txtI x ++ ⟨#[47]⟩ ++ txt v)] w fun e w'=>∃ f c n k c' n' k',e = .returned (.tuple #[.agg #[.bool f,.slice c n k,.slice c' n' k'],.nilIface])∧GR w' w.heap.size f c n k c' n' k' (Rat.divInt x v) (S)∧Below w.heap.size w w':=by
 have R0:=var3_new w (.bool false) (.slice none 0 0) (.slice none 0 0) 27
 have hb0:=bel_d0 w (.cells #[.bool false,.slice none 0 0,.slice none 0 0] 27)
 have hsz:w.heap.size + 1≤(w.alloc (.cells #[.bool false,.slice none 0 0,.slice none 0 0] 27)).heap.size:=by simp
 replace hT:=hT.below hb0
 go_enter Tryz.func60,Tryz.ntmps60
 go_wp2_with fail
 generalize w.alloc (.cells #[.bool false,.slice none 0 0,.slice none 0 0] 27) = W0 at *
 obtain ⟨x1,x2⟩:=ext_ab (txtI x) (txt v) 47
 have HX1:Hid (_ = _):=x1
 have HX2:Hid (_ = _):=x2
 clear x1 x2
 obtain ⟨s,hs⟩:∃ s,txtI x ++ ⟨#[47]⟩ ++ txt v = s:=⟨_,rfl⟩
 have HSS:Hid (txtI x ++ ⟨#[47]⟩ ++ txt v = s):=hs
 rw [hs] at HX1 HX2 hz ⊢
 clear hs
 have hix:Lib.indexByte s.data.toList 47 = ((txtI x).size:Int):=by
  rw [← HSS.out,ByteArray.data_append,ByteArray.data_append,Array.toList_append,Array.toList_append,List.append_assoc]
  have:=ixb_at (l:=(txtI x).data.toList) (r:=(txt v).data.toList) (c:=47) (fun h=>by rcases txtI_mem x h with h | h <;> revert h <;> decide)
  simpa using this
 have hss:s.size = (txtI x).size + 1 + (txt v).size:=by
  rw [← HSS.out,ByteArray.size_append,ByteArray.size_append];rfl
 have hp:=txtI_pos x
 have hne:([47] == s.toList) = false:=by
  rw [beq_eq_false_iff_ne,ByteArray.toList_eq]
  intro e
  have:=congrArg List.length e
  simp at this
  omega
 have hk:=fun u=>cutY47 s (txtI x).size u hne hix hz (by omega)
 rw [HX1.out,HX2.out] at hk
 clear HX1 HX2 hix hne hp
 refine (hk _).mono ?_
 rintro e w1 ⟨rfl,hx⟩
 replace hT:=hT.below hx
 replace R0:=R0.below hx
 replace hb0:=bel_tr hb0 hx
 replace hsz:=Nat.le_trans hsz (Below.size hx)
 clear hx
 clear hk
 go_wp2_with fail
 refine (quotT _ (by omega) (by omega) LX LV hv hS hT).mono ?_
 rintro e w2 ⟨f5,c5,n5,k5,d5,m5,l5,rfl,G5,hx⟩
 replace G5:=G5.mono (B':=w.heap.size + 1) hsz
 replace hT:=hT.below hx
 replace R0:=R0.below hx
 replace hb0:=bel_tr hb0 hx
 replace hsz:=Nat.le_trans hsz (Below.size hx)
 clear hx
 clear hT
 obtain ⟨r0c0,r0c1,r0c2,r0c3,r0c4,r0c5⟩:=id R0
 obtain ⟨V,OO⟩:=R0.set (.bool f5) (.slice c5 n5 k5) (.slice d5 m5 l5)
 have hw:=hb0.trans (OO.below (B:=w.heap.size) (by omega))
 have GF:=G5.off OO (by omega)
 clear G5
 clear R0 OO hb0
 go_wp2
 refine bodyPost_ret (v:=.tuple #[.agg #[.bool f5,.slice c5 n5 k5,.slice d5 m5 l5],.nilIface]) (by simp [results,Tryz.results60,go_sem,V.c0,V.c1,V.c2]) rfl ⟨_,_,_,_,_,_,_,rfl,GF.mono (by omega),hw⟩
end Go.Proofs.YtnkpbjmfdfjeiaaGreatDoor
namespace Go.Proofs.YtnkpbjmfdfjeiaaGreatDoor
open Go.RowKit Go.Shelf
theorem ixa_none {l cs:List UInt8} (h:∀ b ∈ l,b ∉ cs):Lib.indexAny l cs = -1:=by
 induction l with
 | nil=>rfl
 | cons b l ih =>
  have h1:=h b (by simp)
  have h2:=ih (fun c hc=>h c (by simp [hc]))
  simp [Lib.indexAny,h1,h2]
set_option maxHeartbeats 4000000 in
theorem cutExpT (x:Int) (w:World) (hs:(txtI x).size≤100000000):Calls Tryz.prog 86 #[.string (txtI x)] w fun e w'=>e = .returned (.tuple #[.string (txtI x),.string ⟨#[48]⟩])∧Below w.heap.size w w':=by
 have hn:Lib.indexAny (txtI x).data.toList (⟨#[101,69]⟩:ByteArray).data.toList = -1:=ixa_none (fun b hb hc=>by
  have h1:=txtI_mem x hb
  have h2:b ∈ ([101,69]:List UInt8):=hc
  simp at h2
  rcases h2 with rfl | rfl <;> revert h1 <;> decide)
 go_enter Tryz.func86,Tryz.ntmps86
 go_wp2_with fail
 refine (ianyS _ _ _ (by omega) (by decide) (fun j b hb=>by have:=txtI_mem x (List.mem_of_getElem? hb);omega) (asc_of (by decide))).mono ?_
 rw [hn]
 rintro e w1 ⟨rfl,hx⟩
 clear hn
 go_wp2
 go_ret2
 exact ⟨rfl,hx⟩
set_option maxRecDepth 100000 in
set_option maxHeartbeats 4000000 in
theorem repeat0 (s:ByteArray) (w:World):Calls Tryz.prog 108 #[.string s,.int .i64 0] w fun e w'=>e = .returned (.string ⟨#[]⟩)∧Below w.heap.size w w':=by
 go_enter Tryz.func108,Tryz.ntmps108
 go_wp2
 go_ret
 exact ⟨rfl,Below.refl _ _⟩
theorem digsOne:Digs ⟨#[49]⟩ 1:=by
 intro i hi
 obtain rfl:i = 0:=by omega
 decide
theorem rdOne:rdF ⟨#[49]⟩ 0 1 = 1:=by decide
set_option maxHeartbeats 4000000 in
theorem pow1 (w:World):Calls Tryz.prog 90 #[.int .i64 0] w fun e w'=>∃ f c n d,e = .returned (.agg #[.bool f,.slice c n d])∧GI w' w.heap.size (.agg #[.bool f,.slice c n d]) 1 1∧Below w.heap.size w w':=by
 obtain ⟨R0,hb0,hsz⟩:=box1 w (.bool false) (.slice none 0 0) 25
 go_enter Tryz.func90,Tryz.ntmps90
 go_wp2_with fail
 generalize w.alloc (.cells #[.bool false,.slice none 0 0] 25) = W0 at *
 replace hsz:=Nat.le_of_eq hsz.symm
 refine (repeat0 _ _).mono ?_
 rintro e w1 ⟨rfl,hx⟩
 replace R0:=R0.below hx
 replace hb0:=bel_tr hb0 hx
 replace hsz:=Nat.le_trans hsz (Below.size hx)
 clear hx
 go_wp2_with fail
 rw [show ((⟨#[49]⟩:ByteArray) ++ ⟨#[]⟩) = ⟨#[49]⟩ by rfl]
 refine (parse_yes ⟨#[49]⟩ _ (by decide) digsOne (by decide)).mono ?_
 rintro e w2 ⟨c,n,k,rfl,G,hx⟩
 replace G:=G.mono (B':=w.heap.size + 1) hsz
 replace R0:=R0.below hx
 replace hb0:=bel_tr hb0 hx
 replace hsz:=Nat.le_trans hsz (Below.size hx)
 clear hx
 replace G:=G.val (show rdF ⟨#[49]⟩ 0 1 = 1 from rdOne)
 obtain ⟨r0,r1,r2,r3⟩:=id R0
 obtain ⟨V,O⟩:=R0.set (.bool false) (.slice c n k)
 have GF:=(G.gi0).off O (by omega)
 have hw:=hb0.trans (O.below (Nat.le_refl _))
 clear R0 O hb0 G
 go_wp2
 refine bodyPost_ret (v:=.agg #[.bool false,.slice c n k]) (by simp [results,Tryz.results90,go_sem,V.c0,V.c1]) rfl ⟨_,_,_,_,rfl,GF.mono (by omega),hw⟩
set_option maxHeartbeats 4000000 in
theorem decT (x:Int) {S:Nat} (w:World) (hs:(txtI x).size≤100000000) (LX:(x.natAbs:Int) < pw S) (hS:S≤6000000) (hT:TB w) :
  Calls Tryz.prog 73 #[.string (txtI x)] w fun e w'=>∃ f c n k c' n' k',e = .returned (.tuple #[.agg #[.bool f,.slice c n k,.slice c' n' k'],.nilIface])∧GR w' w.heap.size f c n k c' n' k' ((x:Rat)) (S + 1)∧Below w.heap.size w w':=by
 have R0:=var3_new w (.bool false) (.slice none 0 0) (.slice none 0 0) 27
 have hb0:=bel_d0 w (.cells #[.bool false,.slice none 0 0,.slice none 0 0] 27)
 have hsz:w.heap.size + 1≤(w.alloc (.cells #[.bool false,.slice none 0 0,.slice none 0 0] 27)).heap.size:=by simp
 replace hT:=hT.below hb0
 go_enter Tryz.func73,Tryz.ntmps73
 go_wp2_with fail
 generalize w.alloc (.cells #[.bool false,.slice none 0 0,.slice none 0 0] 27) = W0 at *
 have hno:(46:UInt8) ∉ (txtI x).data.toList:=fun h=>by rcases txtI_mem x h with h | h <;> revert h <;> decide
 have hap:txtI x ++ (⟨#[]⟩:ByteArray) = txtI x:=by apply ByteArray.ext;simp [ByteArray.data_append]
 have HAP:Hid (txtI x ++ (⟨#[]⟩:ByteArray) = txtI x):=hap
 clear hap
 refine (cutExpT x _ hs).mono ?_
 rintro e w1 ⟨rfl,hx⟩
 replace hT:=hT.below hx
 replace R0:=R0.below hx
 replace hb0:=bel_tr hb0 hx
 replace hsz:=Nat.le_trans hsz (Below.size hx)
 clear hx
 go_wp2_with fail
 refine (cutN46 _ _ hno).mono ?_
 rintro e w2 ⟨rfl,hx⟩
 replace hT:=hT.below hx
 replace R0:=R0.below hx
 replace hb0:=bel_tr hb0 hx
 replace hsz:=Nat.le_trans hsz (Below.size hx)
 clear hx
 clear hno
 go_wp2_with fail
 refine (canyS _ _ _ (by decide) (by decide) (asc_of (by decide)) (asc_of (by decide))).mono ?_
 rintro e w3 ⟨rfl,hx⟩
 replace hT:=hT.below hx
 replace R0:=R0.below hx
 replace hb0:=bel_tr hb0 hx
 replace hsz:=Nat.le_trans hsz (Below.size hx)
 clear hx
 rw [show Lib.containsAny (⟨#[]⟩:ByteArray).data.toList (⟨#[43,45]⟩:ByteArray).data.toList = false from rfl]
 go_wp2_with fail
 rw [HAP.out]
 refine (parseT (x:=x) _ hs).mono ?_
 rintro e w4 ⟨f1,c1,n1,k1,rfl,K0,hx⟩
 replace K0:=K0.mono (B':=w.heap.size + 1) hsz
 replace hT:=hT.below hx
 replace R0:=R0.below hx
 replace hb0:=bel_tr hb0 hx
 replace hsz:=Nat.le_trans hsz (Below.size hx)
 clear hx
 replace K0:=K0.shrink LX
 have hszN:=hsz
 have hx:=bel_d0 w4 (.cells #[.bool f1,.slice c1 n1 k1] 25)
 replace hT:=hT.below hx
 replace K0:=K0.below hx
 replace R0:=R0.below hx
 replace hb0:=bel_tr hb0 hx
 replace hsz:=Nat.le_trans hsz (Below.size hx)
 have Vn:=var2_new w4 (.bool f1) (.slice c1 n1 k1) 25
 clear hx
 go_wp2_with fail
 generalize w4.alloc (.cells #[.bool f1,.slice c1 n1 k1] 25) = w5 at *
 refine (parseExp _).mono ?_
 rintro e w6 ⟨rfl,hx⟩
 replace hT:=hT.below hx
 replace K0:=K0.below hx
 replace R0:=R0.below hx
 replace Vn:=Vn.below hx
 replace hb0:=bel_tr hb0 hx
 replace hsz:=Nat.le_trans hsz (Below.size hx)
 clear hx
 obtain ⟨vnc0,vnc1,vnc2,vnc3⟩:=id Vn
 go_wp2_with fail
 clear vnc0 vnc1 vnc2 vnc3
 obtain ⟨vnc0,vnc1,vnc2,vnc3⟩:=id Vn
 go_region_held3 (fun w'=>w'.cell? ⟨w4.heap.size,0,none⟩ = some (.bool f1)∧w'.cell? ⟨w4.heap.size,1,none⟩ = some (.slice c1 n1 k1))
   (refine ⟨?_,?_⟩ <;> first | with_reducible exact kept_c hc4 (by assumption) | with_reducible exact kept_c hc3 (by assumption) | with_reducible exact kept_c hc2 (by assumption) | with_reducible exact kept_c hc1 (by assumption) | with_reducible exact kept_c (bel_d1 _) (by assumption) | with_reducible exact set3_far (kept_c hc4 (by assumption)) (by simp <;> omega))
   ((first
    | (go_at_call 90;go_fit (pow1 _);rintro e v7_1 ⟨g1,u1,m1,l1,rfl,K1,hb1⟩;have hd1:Below w6.heap.size w6 v7_1:=(by first | exact hb1 | exact bel_tr (bel_d1 w6) hb1);have hc1:=hd1)
    | (go_at_call 91;go_fit (mulT _ (K0.ti.below hc1) K1.ti (by omega) (by omega));rintro e v7_2 ⟨g2,u2,m2,l2,rfl,K2,hb2⟩;have hd2:Below v7_1.heap.size v7_1 v7_2:=(by first | exact hb2 | exact bel_tr (bel_d1 v7_1) hb2);have hc2:=bel_tr hc1 hd2)
    | (go_at_call 92;go_fit (ofT 1 _ (by omega) (by omega));rintro e v7_3 ⟨g3,u3,m3,l3,rfl,K3,hb3⟩;have hd3:Below v7_2.heap.size v7_2 v7_3:=(by first | exact hb3 | exact bel_tr (bel_d1 v7_2) hb3);have hc3:=bel_tr hc2 hd3)
    | (go_at_call 89;go_fit (lowestR _ (K2.below hd3).ti (K3.ti.le (by omega)) (by decide) (by omega) (hT.below hc3));rintro e v7_4 ⟨g5,u5,m5,l5,u6,m6,l6,rfl,GG,hb4⟩;have hd4:Below v7_3.heap.size v7_3 v7_4:=(by first | exact hb4 | exact bel_tr (bel_d1 v7_3) hb4);have hc4:=bel_tr hc3 hd4;have RZ:=R0.below hc4;obtain ⟨z0,z1,z2,z3,z4,z5⟩:=id RZ)))
 replace GG:=GG.val (show Rat.divInt (x * 1) 1 = (x:Rat) by rw [Int.mul_one];exact Rat.num_divInt_den (x:Rat))
 replace hb0:=bel_tr hb0 hc4
 have hs4:=Below.size hc4
 have hs3v:=Below.size hc3
 clear hb1 hb2 hb3 hb4 hc1 hc2 hc3 hc4 hd1 hd2 hd3 hd4 K0 K1 K2 K3 R0 hT vnc0 vnc1 vnc2 vnc3 Vn z0 z1 z2 z3 z4 z5
 obtain ⟨V,O⟩:=RZ.set (.bool g5) (.slice u5 m5 l5) (.slice u6 m6 l6)
 have GF:=(GG.mono (B':=w.heap.size + 1) (by omega)).off O (by omega)
 have hw:=hb0.trans (O.below (by omega))
 clear RZ O GG hb0
 go_wp2
 refine bodyPost_ret (v:=.tuple #[.agg #[.bool g5,.slice u5 m5 l5,.slice u6 m6 l6],.nilIface]) (by simp [results,Tryz.results73,go_sem,V.c0,V.c1,V.c2]) rfl ⟨_,_,_,_,_,_,_,rfl,GF.mono (by omega),hw⟩
set_option maxHeartbeats 4000000 in
theorem parseIT (x:Int) {S:Nat} (w:World) (hs:(txtI x).size≤100000000) (LX:(x.natAbs:Int) < pw S) (hS:S≤6000000) (hT:TB w) :
  Calls Tryz.prog 60 #[.string (txtI x)] w fun e w'=>∃ f c n k c' n' k',e = .returned (.tuple #[.agg #[.bool f,.slice c n k,.slice c' n' k'],.nilIface])∧GR w' w.heap.size f c n k c' n' k' ((x:Rat)) (S + 1)∧Below w.heap.size w w':=by
 have R0:=var3_new w (.bool false) (.slice none 0 0) (.slice none 0 0) 27
 have hb0:=bel_d0 w (.cells #[.bool false,.slice none 0 0,.slice none 0 0] 27)
 have hsz:w.heap.size + 1≤(w.alloc (.cells #[.bool false,.slice none 0 0,.slice none 0 0] 27)).heap.size:=by simp
 replace hT:=hT.below hb0
 go_enter Tryz.func60,Tryz.ntmps60
 go_wp2_with fail
 generalize w.alloc (.cells #[.bool false,.slice none 0 0,.slice none 0 0] 27) = W0 at *
 have hno:(47:UInt8) ∉ (txtI x).data.toList:=fun h=>by rcases txtI_mem x h with h | h <;> revert h <;> decide
 refine (cutN47 _ _ hno).mono ?_
 rintro e w1 ⟨rfl,hx⟩
 replace hT:=hT.below hx
 replace R0:=R0.below hx
 replace hb0:=bel_tr hb0 hx
 replace hsz:=Nat.le_trans hsz (Below.size hx)
 clear hx
 clear hno
 go_wp2_with fail
 refine (decT x _ hs LX hS hT).mono ?_
 rintro e w2 ⟨f5,c5,n5,k5,d5,m5,l5,rfl,G5,hx⟩
 replace G5:=G5.mono (B':=w.heap.size + 1) hsz
 replace hT:=hT.below hx
 replace R0:=R0.below hx
 replace hb0:=bel_tr hb0 hx
 replace hsz:=Nat.le_trans hsz (Below.size hx)
 clear hx
 clear hT
 obtain ⟨r0c0,r0c1,r0c2,r0c3,r0c4,r0c5⟩:=id R0
 obtain ⟨V,OO⟩:=R0.set (.bool f5) (.slice c5 n5 k5) (.slice d5 m5 l5)
 have hw:=hb0.trans (OO.below (B:=w.heap.size) (by omega))
 have GF:=G5.off OO (by omega)
 clear G5
 clear R0 OO hb0
 go_wp2
 refine bodyPost_ret (v:=.tuple #[.agg #[.bool f5,.slice c5 n5 k5,.slice d5 m5 l5],.nilIface]) (by simp [results,Tryz.results60,go_sem,V.c0,V.c1,V.c2]) rfl ⟨_,_,_,_,_,_,_,rfl,GF.mono (by omega),hw⟩
theorem parseTxt (r:Rat) {S:Nat} (w:World) (hs:(txtQ r).size≤100000000) (LX:(r.num.natAbs:Int) < pw S) (LV:(r.den:Int) < pw S) (hS:S≤6000000) (hT:TB w) :
  Calls Tryz.prog 60 #[.string (txtQ r)] w fun e w'=>∃ f c n k c' n' k',e = .returned (.tuple #[.agg #[.bool f,.slice c n k,.slice c' n' k'],.nilIface])∧GR w' w.heap.size f c n k c' n' k' (r) (S + 1)∧Below w.heap.size w w':=by
 unfold txtQ at hs ⊢
 split at hs
 ·rename_i h
  rw [if_pos h]
  refine (parseIT r.num w hs LX hS hT).mono ?_
  rintro e w' ⟨f,c,n,k,c',n',k',rfl,G,hb⟩
  refine ⟨f,c,n,k,c',n',k',rfl,G.val ?_,hb⟩
  exact Rat.ext (Rat.num_intCast _) (by rw [Rat.den_intCast,h])
 ·rename_i h
  rw [if_neg h]
  refine (parseQT w hs LX LV r.den_nz (by omega) hT).mono ?_
  rintro e w' ⟨f,c,n,k,c',n',k',rfl,G,hb⟩
  exact ⟨f,c,n,k,c',n',k',rfl,(G.val (Rat.num_divInt_den r)).le (by omega),hb⟩
end Go.Proofs.YtnkpbjmfdfjeiaaGreatDoor
