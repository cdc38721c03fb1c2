import Derived.Test.YtgdilnljjgdinaaGreatDoorDigAll
import Derived.Test.YtgdilnljjgdinaaGreatDoorWhEAll
import Derived.Test.YtgdilnljjgdinaaGreatDoorTxAll
import Derived.Test.YtgdilnljjgdinaaGreatDoorRatAll
namespace Go.Proofs.YtgdilnljjgdinaaGreatDoor
open Go.RowKit
end Go.Proofs.YtgdilnljjgdinaaGreatDoor
namespace Go.Proofs.YtgdilnljjgdinaaGreatDoor
open Go.RowKit Go.Shelf
theorem ixb_none {l:List UInt8} {c:UInt8} (h:c ∉ l):Lib.indexByte l c = -1:=by
 induction l with
 | nil=>rfl
 | cons b l ih =>
  simp only [List.mem_cons,not_or] at h
  have hb:(b == c)=false:=by simpa using fun e=>h.1 e.symm
  simp [Lib.indexByte,hb,ih h.2]
theorem ixb_at {l r:List UInt8} {c:UInt8} (h:c ∉ l):Lib.indexByte (l++c::r) c=(l.length:Int):=by
 induction l with
 | nil=>simp [Lib.indexByte]
 | cons b l ih =>
  simp only [List.mem_cons,not_or] at h
  have hb:(b == c)=false:=by simpa using fun e=>h.1 e.symm
  have h2:=ih h.2
  simp only [List.cons_append,Lib.indexByte,hb,h2,List.length_cons]
  have:((l.length:Int) == -1)=false:=by simp
  simp [this]
theorem str_off {s:ByteArray} {c:UInt8} (h:c ∉ s.data.toList):([c] == s.toList)=false:=by
 rw [beq_eq_false_iff_ne,ByteArray.toList_eq]
 intro e
 exact h (by rw [← e];simp)
set_option maxRecDepth 100000 in
set_option maxHeartbeats 4000000 in
theorem idx47 (s:ByteArray) (t:Int) (w:World) (hne:([47] == s.toList)=false) (ht:Lib.indexByte s.data.toList 47=t):Calls Tryz.prog 106 #[.string s,.string ⟨#[47]⟩] w fun e w'=>e = .returned (.int .i64 t)∧w'=w:=by
 have HT:Hid (Lib.indexByte s.data.toList 47=t):=ht
 clear ht
 go_enter Tryz.func106,Tryz.ntmps106
 go_wp2_with fail
 refine (ibyteS _ _ _).mono ?_
 rintro e w' ⟨rfl,rfl⟩
 rw [show Lib.indexByte s.data.toList (((({ data:=#[47] }:ByteArray)[0]'(by decide)).toNat:Int).toNat.toUInt8)=t from HT.out]
 go_wp2
 go_ret
 exact ⟨rfl,rfl⟩
set_option maxRecDepth 100000 in
set_option maxHeartbeats 4000000 in
theorem cutN47 (s:ByteArray) (w:World) (h:(47:UInt8) ∉ s.data.toList):Calls Tryz.prog 49 #[.string s,.string ⟨#[47]⟩] w fun e w'=>e = .returned (.tuple #[.string s,.string ⟨#[]⟩,.bool false])∧Below w.heap.size w w':=by
 have k:Calls Tryz.prog 81 #[.string s,.string ⟨#[47]⟩] w fun e w'=>e = .returned (.tuple #[.string s,.string ⟨#[]⟩,.bool false])∧Below w.heap.size w w':=by
  go_enter Tryz.func81,Tryz.ntmps81
  go_wp2_with fail
  refine (idx47 s (-1) _ (str_off h) (ixb_none h)).mono ?_
  rintro e w' ⟨rfl,rfl⟩
  go_wp2
  go_ret3
  exact ⟨rfl,Below.refl _ _⟩
 go_enter Tryz.func49,Tryz.ntmps49
 go_wp2_with fail
 refine k.mono ?_
 rintro e w' ⟨rfl,hx⟩
 go_wp2
 go_ret3
 exact ⟨rfl,hx⟩
set_option maxRecDepth 100000 in
set_option maxHeartbeats 4000000 in
theorem idx46 (s:ByteArray) (t:Int) (w:World) (hne:([46] == s.toList)=false) (ht:Lib.indexByte s.data.toList 46=t):Calls Tryz.prog 106 #[.string s,.string ⟨#[46]⟩] w fun e w'=>e = .returned (.int .i64 t)∧w'=w:=by
 have HT:Hid (Lib.indexByte s.data.toList 46=t):=ht
 clear ht
 go_enter Tryz.func106,Tryz.ntmps106
 go_wp2_with fail
 refine (ibyteS _ _ _).mono ?_
 rintro e w' ⟨rfl,rfl⟩
 rw [show Lib.indexByte s.data.toList (((({ data:=#[46] }:ByteArray)[0]'(by decide)).toNat:Int).toNat.toUInt8)=t from HT.out]
 go_wp2
 go_ret
 exact ⟨rfl,rfl⟩
set_option maxRecDepth 100000 in
set_option maxHeartbeats 4000000 in
theorem cutN46 (s:ByteArray) (w:World) (h:(46:UInt8) ∉ s.data.toList):Calls Tryz.prog 49 #[.string s,.string ⟨#[46]⟩] w fun e w'=>e = .returned (.tuple #[.string s,.string ⟨#[]⟩,.bool false])∧Below w.heap.size w w':=by
 have k:Calls Tryz.prog 81 #[.string s,.string ⟨#[46]⟩] w fun e w'=>e = .returned (.tuple #[.string s,.string ⟨#[]⟩,.bool false])∧Below w.heap.size w w':=by
  go_enter Tryz.func81,Tryz.ntmps81
  go_wp2_with fail
  refine (idx46 s (-1) _ (str_off h) (ixb_none h)).mono ?_
  rintro e w' ⟨rfl,rfl⟩
  go_wp2
  go_ret3
  exact ⟨rfl,Below.refl _ _⟩
 go_enter Tryz.func49,Tryz.ntmps49
 go_wp2_with fail
 refine k.mono ?_
 rintro e w' ⟨rfl,hx⟩
 go_wp2
 go_ret3
 exact ⟨rfl,hx⟩
end Go.Proofs.YtgdilnljjgdinaaGreatDoor
namespace Go.Proofs.YtgdilnljjgdinaaGreatDoor
open Go.RowKit Go.Shelf
theorem Got.ti' {w:World} {B:Nat} {a:Option Addr} {n c:Nat} {x:Int} {S:Nat} (h:Got w B (.slice a n c) x S):TI w false a n c x S:=⟨_,h.num,rfl⟩
end Go.Proofs.YtgdilnljjgdinaaGreatDoor
namespace Go.Proofs.YtgdilnljjgdinaaGreatDoor
open Go.RowKit Go.Shelf
theorem ixa_none {l cs:List UInt8} (h:∀ b ∈ l,b ∉ cs):Lib.indexAny l cs = -1:=by
 induction l with
 | nil=>rfl
 | cons b l ih =>
  have h1:=h b (by simp)
  have h2:=ih (fun c hc=>h c (by simp [hc]))
  simp [Lib.indexAny,h1,h2]
set_option maxRecDepth 100000 in
set_option maxHeartbeats 4000000 in
theorem repeat0 (s:ByteArray) (w:World):Calls Tryz.prog 151 #[.string s,.int .i64 0] w fun e w'=>e = .returned (.string ⟨#[]⟩)∧Below w.heap.size w w':=by
 go_enter Tryz.func151,Tryz.ntmps151
 go_wp2
 go_ret
 exact ⟨rfl,Below.refl _ _⟩
end Go.Proofs.YtgdilnljjgdinaaGreatDoor
