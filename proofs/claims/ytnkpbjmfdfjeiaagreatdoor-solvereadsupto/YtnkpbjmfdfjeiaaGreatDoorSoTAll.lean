import Derived.Test.YtnkpbjmfdfjeiaaGreatDoorSoQAll
import Derived.Test.YtnkpbjmfdfjeiaaGreatDoorSoCAll
namespace Go.Proofs.YtnkpbjmfdfjeiaaGreatDoor
open Go.RowKit Go.Shelf
set_option maxRecDepth 100000 in
set_option maxHeartbeats 4000000 in
theorem idx10 (s:ByteArray) (t:Int) (w:World) (hne:([10] == s.toList) = false) (ht:Lib.indexByte s.data.toList 10 = t):Calls Tryz.prog 57 #[.string s,.string ⟨#[10]⟩] w fun e w'=>e = .returned (.int .i64 t)∧w' = w:=by
 have HT:Hid (Lib.indexByte s.data.toList 10 = t):=ht
 clear ht
 go_enter Tryz.func57,Tryz.ntmps57
 go_wp2_with fail
 refine (ibyteS _ _ _).mono ?_
 rintro e w' ⟨rfl,rfl⟩
 rw [show Lib.indexByte s.data.toList (((({ data:=#[10] }:ByteArray)[0]'(by decide)).toNat:Int).toNat.toUInt8) = t from HT.out]
 go_wp2
 go_ret
 exact ⟨rfl,rfl⟩
set_option maxRecDepth 100000 in
set_option maxHeartbeats 4000000 in
theorem cutN10 (s:ByteArray) (w:World) (h:(10:UInt8) ∉ s.data.toList):Calls Tryz.prog 24 #[.string s,.string ⟨#[10]⟩] w fun e w'=>e = .returned (.tuple #[.string s,.string ⟨#[]⟩,.bool false])∧Below w.heap.size w w':=by
 have k:Calls Tryz.prog 43 #[.string s,.string ⟨#[10]⟩] w fun e w'=>e = .returned (.tuple #[.string s,.string ⟨#[]⟩,.bool false])∧Below w.heap.size w w':=by
  go_enter Tryz.func43,Tryz.ntmps43
  go_wp2_with fail
  refine (idx10 s (-1) _ (str_off h) (ixb_none h)).mono ?_
  rintro e w' ⟨rfl,rfl⟩
  go_wp2
  go_ret3
  exact ⟨rfl,Below.refl _ _⟩
 go_enter Tryz.func24,Tryz.ntmps24
 go_wp2_with fail
 refine k.mono ?_
 rintro e w' ⟨rfl,hx⟩
 go_wp2
 go_ret3
 exact ⟨rfl,hx⟩
set_option maxRecDepth 100000 in
set_option maxHeartbeats 4000000 in
theorem cutY10 (s:ByteArray) (k:Nat) (w:World) (hne:([10] == s.toList) = false) (hk:Lib.indexByte s.data.toList 10 = (k:Int)) (hs:s.size≤100000000) (hks:k < s.size):Calls Tryz.prog 24 #[.string s,.string ⟨#[10]⟩] w fun e w'=>e = .returned (.tuple #[.string (s.extract 0 k),.string (s.extract (k + 1) s.size),.bool true])∧Below w.heap.size w w':=by
 have kk:Calls Tryz.prog 43 #[.string s,.string ⟨#[10]⟩] w fun e w'=>e = .returned (.tuple #[.string (s.extract 0 k),.string (s.extract (k + 1) s.size),.bool true])∧Below w.heap.size w w':=by
  have hk1:(0:Int)≤(k:Int):=by omega
  have hk2:(k:Int)≤(s.size:Int):=by omega
  have hk3:(k:Int) + 1≤(s.size:Int):=by omega
  have hw1:IntKind.i64.wrap ((k:Int) + 1) = (k:Int) + 1:=by rw [IntKind.wrap_i64];omega
  go_enter Tryz.func43,Tryz.ntmps43
  go_wp2_with fail
  refine (idx10 s k _ hne hk).mono ?_
  rintro e w' ⟨rfl,rfl⟩
  clear hk hne
  go_wp2
  go_region
  go_wp2
  go_ret3
  exact ⟨by simp,(Below.refl _ _).drew⟩
 go_enter Tryz.func24,Tryz.ntmps24
 go_wp2_with fail
 refine kk.mono ?_
 rintro e w' ⟨rfl,hx⟩
 go_wp2
 go_ret3
 exact ⟨rfl,hx⟩
set_option maxRecDepth 100000 in
set_option maxHeartbeats 4000000 in
theorem cutS10 (w:World):Calls Tryz.prog 24 #[.string ⟨#[10]⟩,.string ⟨#[10]⟩] w fun e w'=>e = .returned (.tuple #[.string ⟨#[]⟩,.string ⟨#[]⟩,.bool true])∧Below w.heap.size w w':=by
 have k0:∀ u,Calls Tryz.prog 57 #[.string ⟨#[10]⟩,.string ⟨#[10]⟩] u fun e w'=>e = .returned (.int .i64 0)∧w' = u:=fun u=>by
  go_enter Tryz.func57,Tryz.ntmps57
  go_wp2
  go_ret
  exact ⟨rfl,rfl⟩
 have kk:Calls Tryz.prog 43 #[.string ⟨#[10]⟩,.string ⟨#[10]⟩] w fun e w'=>e = .returned (.tuple #[.string ⟨#[]⟩,.string ⟨#[]⟩,.bool true])∧Below w.heap.size w w':=by
  go_enter Tryz.func43,Tryz.ntmps43
  go_wp2_with fail
  refine (k0 _).mono ?_
  rintro e w' ⟨rfl,rfl⟩
  go_wp2
  go_region
  go_wp2
  go_ret3
  exact ⟨rfl,(Below.refl _ _).drew⟩
 go_enter Tryz.func24,Tryz.ntmps24
 go_wp2_with fail
 refine kk.mono ?_
 rintro e w' ⟨rfl,hx⟩
 go_wp2
 go_ret3
 exact ⟨rfl,hx⟩
theorem lineI:(Tryz.prog.info? 78).map (·.size) = some 2:=by kernel_rfl
theorem sl_box1 {w:World} {B:Nat} {T:TypeId} {cs:Array Value} {c:Nat} (hcs:cs.size = c) (hB:B≤w.heap.size):SL (w.alloc (.cells cs T)) B T c (.slice (some ⟨w.heap.size,0,none⟩) 1 1) 1 (fun _=>cs.toList):=by
 refine ⟨cs.toList,⟨by simp [hcs],.inr ⟨w.heap.size,1,cs,rfl,hB,heap_alloc_new w _,Nat.le_refl _,by unfold maxLen;decide,by simp [hcs],by rw [Nat.one_mul];exact List.take_of_length_le (by simp [hcs])⟩⟩,fun i hi j u hu=>?_⟩
 obtain rfl:i = 0:=by omega
 have:=(List.getElem?_eq_some_iff.1 hu).1
 refine ⟨by simp at this;omega,by simpa using hu⟩
theorem wd_no10 {v:Nat} (h1:1≤v) (h2:v≤3):(10:UInt8) ∉ wdV v:=by
 rcases (by omega:v = 1∨v = 2∨v = 3) with rfl | rfl | rfl <;> decide
theorem wd_eq {v v':Nat} (h1:1≤v) (h2:v≤3) (h3:1≤v') (h4:v'≤3) (e:wdV v = wdV v'):v = v':=by
 rcases (by omega:v = 1∨v = 2∨v = 3) with rfl | rfl | rfl <;> rcases (by omega:v' = 1∨v' = 2∨v' = 3) with rfl | rfl | rfl <;> first | rfl | (exact absurd e (by decide))
theorem cutQ10 (s:ByteArray) (w:World) (hs:s.size≤1048576):Calls Tryz.prog 24 #[.string s,.string ⟨#[10]⟩] w fun e w'=>∃ f r b,e = .returned (.tuple #[.string f,.string r,.bool b])∧(∀ x m,(10:UInt8) ∉ x→s.data.toList = x ++ 10 :: m→f.data.toList = x)∧Below w.heap.size w w':=by
 by_cases h1:s = ⟨#[10]⟩
 ·subst h1
  refine (cutS10 w).mono ?_
  rintro e w' ⟨rfl,hx⟩
  refine ⟨_,_,_,rfl,fun x m h h2=>?_,hx⟩
  cases x with
  | nil=>rfl
  | cons b x =>
   have h2':[(10:UInt8)] = (b :: x) ++ 10 :: m:=h2
   simp only [List.cons_append,List.cons.injEq] at h2'
   exact absurd (by rw [h2'.1];exact List.mem_cons_self ..) h
 ·have hne:([10] == s.toList) = false:=by
   rw [beq_eq_false_iff_ne,ByteArray.toList_eq]
   intro e
   exact h1 (ba_eq e.symm)
  by_cases h2:(10:UInt8) ∈ s.data.toList
  ·obtain ⟨i,hi,hb⟩:=in_byt h2
   obtain ⟨k,hk1,hk2,hk3⟩:∃ k,k < s.size∧byt s k = 10∧∀ j,j < k→byt s j ≠ 10:=by
    have hb':byt s i = 10:=hb
    clear hb
    induction i using Nat.strongRecOn with
    | _ i ih =>
     by_cases h:∃ j,j < i∧byt s j = 10
     ·obtain ⟨j,h3,h4⟩:=h
      exact ih j h3 (by omega) h4
     ·exact ⟨i,hi,hb',fun j hj e=>h ⟨j,hj,e⟩⟩
   have hix:=ib_at (s:=s) (c:=10) hk1 hk2 hk3
   refine (cutY10 s k w hne hix (by omega) hk1).mono ?_
   rintro e w' ⟨rfl,hx⟩
   refine ⟨_,_,_,rfl,fun x m h3 h4=>?_,hx⟩
   rw [ext_front]
   have e5:=ixb_at (r:=m) h3
   rw [← h4,hix] at e5
   have e6:k = x.length:=by omega
   rw [h4,e6,List.take_left]
  ·refine (cutN10 s w h2).mono ?_
   rintro e w' ⟨rfl,hx⟩
   exact ⟨_,_,_,rfl,fun x m _ h4=>absurd (by rw [h4];simp) h2,hx⟩
theorem wordOf1 (w:World):Calls Tryz.prog 25 #[.int .i64 1] w fun e w'=>e = .returned (.string ⟨#[111,112,116,105,109,97,108]⟩)∧w' = w:=by
 go_enter Tryz.func25,Tryz.ntmps25
 go_wp2
 go_ret
 exact ⟨rfl,rfl⟩
theorem wordOf2 (w:World):Calls Tryz.prog 25 #[.int .i64 2] w fun e w'=>e = .returned (.string ⟨#[105,110,102,101,97,115,105,98,108,101]⟩)∧w' = w:=by
 go_enter Tryz.func25,Tryz.ntmps25
 go_wp2
 go_ret
 exact ⟨rfl,rfl⟩
theorem wordOf3 (w:World):Calls Tryz.prog 25 #[.int .i64 3] w fun e w'=>e = .returned (.string ⟨#[117,110,98,111,117,110,100,101,100]⟩)∧w' = w:=by
 go_enter Tryz.func25,Tryz.ntmps25
 go_wp2
 go_ret
 exact ⟨rfl,rfl⟩
theorem wordOfQ {v:Nat} (h1:1≤v) (h2:v≤3) (w:World):Calls Tryz.prog 25 #[.int .i64 (v:Int)] w fun e w'=>∃ t:ByteArray,e = .returned (.string t)∧t.data.toList = wdV v∧w' = w:=by
 rcases (by omega:v = 1∨v = 2∨v = 3) with rfl | rfl | rfl
 ·exact (wordOf1 w).mono fun _ _ ⟨h1,h2⟩=>⟨_,h1,rfl,h2⟩
 ·exact (wordOf2 w).mono fun _ _ ⟨h1,h2⟩=>⟨_,h1,rfl,h2⟩
 ·exact (wordOf3 w).mono fun _ _ ⟨h1,h2⟩=>⟨_,h1,rfl,h2⟩
set_option maxRecDepth 100000 in
set_option maxHeartbeats 4000000 in
theorem verdictQ (s:ByteArray) (w:World) (hs:s.size≤1048576):Calls Tryz.prog 16 #[.string s] w fun e w'=>∃ v:Nat,e = .returned (.int .i64 (v:Int))∧v≤3∧(∀ u m,1≤u→u≤3→s.data.toList = wdV u ++ 10 :: m→v = u)∧Below w.heap.size w w':=by
 go_enter Tryz.func16,Tryz.ntmps16
 go_wp2_with fail
 refine (cutQ10 s w hs).mono ?_
 rintro e w1 ⟨f,r,bb,rfl,hf,hx⟩
 have HF:Hid (∀ x m,(10:UInt8) ∉ x→s.data.toList = x ++ 10 :: m→f.data.toList = x):=hf
 clear hf
 go_wp2
 go_loopw [6] (fun s6 wr=>∃ (v:Nat),1≤v∧v≤4∧s6 = .int .i64 v∧(∀ u,1≤u→u < v→¬ f.data.toList = wdV u)∧wr = w1) (fun s6 _=>4 - (intOf s6).toNat)
 case atStart=>exact ⟨1,by omega,by omega,rfl,fun u h1 h2=>by omega,rfl⟩
 case round =>
  obtain ⟨v,hv1,hv4,rfl,HN,rfl⟩:=hrel
  have HNH:Hid (∀ u,1≤u→u < v→¬ f.data.toList = wdV u):=HN
  clear HN
  by_cases hlt:v≤3
  ·have hkI:(v:Int)≤3:=by omega
   go_wp2_with fail
   refine (wordOfQ hv1 hlt wr).mono ?_
   rintro e w2 ⟨t,rfl,ht,rfl⟩
   have HT:Hid (t.data.toList = wdV v):=ht
   clear ht
   by_cases hft:f = t
   ·have HFT:Hid (f = t):=hft
    rw [hft]
    clear hft
    go_wp2
    go_ret
    refine ⟨v,rfl,hlt,fun u m h1 h2 h3=>?_,hx⟩
    have e1:=HF.out (wdV u) m (wd_no10 h1 h2) h3
    rw [HFT.out,HT.out] at e1
    exact wd_eq hv1 hlt h1 h2 e1
   ·have hfb:(f.toList == t.toList) = false:=str_neq hft
    have HFT:Hid (¬ f = t):=hft
    clear hft
    go_wp2
    go_roundw
    case rel =>
     have HN2:∀ u,1≤u→u < v + 1→¬ f.data.toList = wdV u:=fun u h1 h2=>by
      rcases (by omega:u < v∨u = v) with h | rfl
      ·exact HNH.out u h1 h
      ·rw [← HT.out];exact fun e=>HFT.out (ba_eq e)
     first | exact ⟨v + 1,by omega,by omega,by go_num,HN2,trivial⟩ | exact ⟨v + 1,by omega,by omega,by go_num,HN2,rfl⟩ | ((repeat apply Exists.intro);refine ⟨?_,rfl⟩;exact ⟨v + 1,by omega,by omega,by go_num,HN2,rfl⟩)
    case measure=>simp [intOf];omega
  ·have hkI:¬ (v:Int)≤3:=by omega
   go_wp2
   go_ret
   refine ⟨0,rfl,by omega,fun u m h1 h2 h3=>?_,hx⟩
   exact absurd (HF.out (wdV u) m (wd_no10 h1 h2) h3) (HNH.out u h1 (by omega))
set_option maxRecDepth 100000 in
set_option maxHeartbeats 4000000 in
theorem valueLineQ (g o:Nat) (w:World):Calls Tryz.prog 27 #[.pointer (some ⟨g,o,none⟩)] w fun e w'=>∃ c,e = .returned (.agg c)∧LnC w' w.heap.size c.toList wVal 1 (fun _=>(g,o))∧Below w.heap.size w w':=by
 go_enter Tryz.func27,Tryz.ntmps27
 go_wp2
 have hb:=bel_tr (bel_d0 w (.cells #[.string ⟨#[118,97,108,117,101]⟩,.slice (some ⟨w.heap.size + 1,0,none⟩) 1 1] 78)) (bel_d0 _ (.cells #[.pointer (some ⟨g,o,none⟩)] 82))
 have R0:=(Rw.new 78 w #[.string ⟨#[118,97,108,117,101]⟩,.slice (some ⟨w.heap.size + 1,0,none⟩) 1 1]).below (bel_d0 _ (.cells #[.pointer (some ⟨g,o,none⟩)] 82))
 have hS:=sl_box1 (w:=w.alloc (.cells #[.string ⟨#[118,97,108,117,101]⟩,.slice (some ⟨w.heap.size + 1,0,none⟩) 1 1] 78)) (B:=w.heap.size) (T:=82) (cs:=#[.pointer (some ⟨g,o,none⟩)]) rfl (by simp)
 rw [show (w.alloc (.cells #[.string ⟨#[118,97,108,117,101]⟩,.slice (some ⟨w.heap.size + 1,0,none⟩) 1 1] 78)).heap.size = w.heap.size + 1 by simp] at hS
 exact bodyPost_ret (R0.ret1 Tryz.results27 _ rfl Tryz.underlying78 lineI) rfl ⟨_,rfl,⟨_,_,rfl,rfl,hS⟩,hb⟩
end Go.Proofs.YtnkpbjmfdfjeiaaGreatDoor
namespace Go.Proofs.YtnkpbjmfdfjeiaaGreatDoor
open Go.RowKit
theorem infoLine:(Tryz.prog.info? 78).map (fun i=>(i.zero.map (·.cells),i.size,i.bytes)) = some (some #[.string ⟨#[]⟩,.slice none 0 0],2,40):=by kernel_rfl
theorem infPtr:Inf 82 1 8:=inf_of (by kernel_rfl)
theorem infLine:Inf 78 2 40:=inf_of (by kernel_rfl)
theorem sl_made {w:World} {T:TypeId} {a0 a1:Value} {n:Nat} (hn:n≤10000000):SL (w.alloc (.cells (madeCells #[a0,a1] (n * 2)) T)) w.heap.size T 2 (.slice (some ⟨w.heap.size,0,none⟩) n n) n (fun _=>[a0,a1]):=by
 refine ⟨(madeCells #[a0,a1] (n * 2)).toList,⟨by simp [size_madeCells],.inr ⟨w.heap.size,n,_,rfl,Nat.le_refl _,heap_alloc_new w _,Nat.le_refl _,by unfold maxLen;omega,by rw [size_madeCells],List.take_of_length_le (by simp [size_madeCells])⟩⟩,fun i hi j u hu=>?_⟩
 have hj:j < 2:=(List.getElem?_eq_some_iff.1 hu).1
 refine ⟨hj,?_⟩
 have hlt:i * 2 + j < n * 2:=by omega
 rw [Array.getElem?_toList,Array.getElem?_eq_getElem (by rw [size_madeCells];exact hlt)]
 have hm:(i * 2 + j) % 2 = j:=by omega
 simp only [madeCells,Array.getElem_map,Array.getElem_range,List.size_toArray,List.length_cons,List.length_nil,Nat.zero_add,Nat.reduceAdd,hm]
 rw [← hu]
 rcases (by omega:j = 0∨j = 1) with rfl | rfl <;> rfl
theorem tot_leS2 {Z:Nat→Nat} {i n:Nat} (h:i < n):Z i≤tot Z n:=by
 induction n with
 | zero=>omega
 | succ n ih =>
  show Z i≤tot Z n + Z n + 1
  rcases (by omega:i < n∨i = n) with h1 | rfl
  ·have:=ih h1;omega
  ·omega
theorem wpList_makeL (w:World) {ops:Array Oper} {rest:List Oper} {o:Oper} {a:Act} {Q:Exit→Act→World→Prop} (hg:o.guard = none) (l c:Operand) (hop:o.op = Op.makeSlice 65 l c)
  (n:Nat) (hl:a.eval l = .int .i64 (n:Int)) (hc:a.eval c = .int .i64 (n:Int)) (hn:n≤10000000)
  (h:∀ w',SL w' w.heap.size 78 2 (.slice (some ⟨w.heap.size,0,none⟩) n n) n (fun _=>[.string ⟨#[]⟩,.slice none 0 0])→Below w.heap.size w w'→w'.heap.size = w.heap.size + 1→wpList Tryz.prog ops Q rest (a.put o.dst (.slice (some ⟨w.heap.size,0,none⟩) n n)) w'):wpList Tryz.prog ops Q (o :: rest) a w:=by
 obtain ⟨i0,hi,hx⟩:=Option.map_eq_some_iff.1 infoLine
 simp only [Prod.mk.injEq] at hx
 obtain ⟨h1,h2,h3⟩:=hx
 obtain ⟨z,hz,h4⟩:=Option.map_eq_some_iff.1 h1
 have hr:=run_make (P:=Tryz.prog) w 65 78 i0 z Tryz.underlying65 hi hz .i64 .i64 (n:Int) (n:Int) (by omega) (Int.le_refl _) (by rw [h3];omega) (by omega)
 simp only [Int.toNat_natCast] at hr
 refine wpList_plain hg fun K hK'=>?_
 unfold Oper.wp execOp
 simp only [hop,Sem.run_bind,Sem.run_pure,Result.andThen_ok,hl,hc,hr]
 refine hK' _ _ (h _ ?_ (bel_d0 w _) (by simp))
 rw [h4,h2]
 exact sl_made hn
theorem SL.put2 {w:World} {B:Nat} {T:TypeId} {n cap g:Nat} {E:Nat→List Value} (h:SL w B T 2 (.slice (some ⟨g,0,none⟩) n cap) n E) {i:Nat} {a b:Value} (hi:i < n) (hE:(E i).length = 2):SL ((w.setCell ⟨g,i * 2,none⟩ a).setCell ⟨g,i * 2 + 1,none⟩ b) B T 2 (.slice (some ⟨g,0,none⟩) n cap) n (fun q=>if q = i then [a,b] else E q):=by
 obtain ⟨vs,⟨h1,h2⟩,h3⟩:=h
 rcases h2 with ⟨e,_⟩ | ⟨g',cap',cur,e1,e2,hgb,e3,e4,e5,e6⟩
 ·cases e
 simp only [Value.slice.injEq,Option.some.injEq,Addr.mk.injEq,and_true,true_and] at e1
 obtain ⟨rfl,rfl⟩:=e1
 have hb2:=heap_setCell_same _ g (i * 2 + 1) _ T b (heap_setCell_same w g (i * 2) cur T a hgb)
 refine ⟨(vs.set (i * 2) a).set (i * 2 + 1) b,⟨by rw [List.length_set,List.length_set];exact h1,.inr ⟨g,cap,_,rfl,e2,hb2,e3,e4,by simpa using e5,?_⟩⟩,fun q hq j u hu=>?_⟩
 ·rw [Array.toList_setIfInBounds,Array.toList_setIfInBounds,← e6,List.take_set,List.take_set]
 ·by_cases hqi:q = i
  ·subst hqi
   simp only [if_true] at hu
   have hj:j < 2:=(List.getElem?_eq_some_iff.1 hu).1
   refine ⟨hj,?_⟩
   rcases (by omega:j = 0∨j = 1) with rfl | rfl
   ·show ((vs.set (q * 2) a).set (q * 2 + 1) b)[q * 2]? = some u
    rw [List.getElem?_set_ne (by omega),List.getElem?_set_self (by omega)];exact hu
   ·rw [List.getElem?_set_self (by rw [List.length_set];omega)];exact hu
  ·simp only [hqi,if_false] at hu
   obtain ⟨a1,a2⟩:=h3 q hq j u hu
   refine ⟨a1,?_⟩
   rw [List.getElem?_set_ne (by omega),List.getElem?_set_ne (by omega)]
   exact a2
theorem SL.there {w:World} {B:Nat} {T:TypeId} {c n cap g:Nat} {E:Nat→List Value} (h:SL w B T c (.slice (some ⟨g,0,none⟩) n cap) n E):∃ cur:Array Value,w.heap[g]? = some (.cells cur T (0,0))∧n * c≤cur.size∧B≤g:=by
 obtain ⟨vs,⟨h1,h2⟩,h3⟩:=h
 rcases h2 with ⟨e,_⟩ | ⟨g',cap',cur,e1,e2,hgb,e3,e4,e5,e6⟩
 ·cases e
 simp only [Value.slice.injEq,Option.some.injEq,Addr.mk.injEq,and_true,true_and] at e1
 obtain ⟨rfl,rfl⟩:=e1
 exact ⟨cur,hgb,by rw [e5];exact Nat.mul_le_mul_right c e3,e2⟩
theorem LnC.kept {w w':World} {F g:Nat} {c:List Value} {wd:List UInt8} {K:Nat} {D:Nat→Nat × Nat} {cur:Array Value} (h:LnC w F c wd K D) (hg:w.grownBy w' (some g)) (ht:w.heap[g]? = some (.cells cur 78 (0,0))):LnC w' F c wd K D:=by
 obtain ⟨s,nv,e,hs,hp⟩:=h
 refine ⟨s,nv,e,hs,SL.kept hp hg (fun k hk e2=>?_)⟩
 simp only [Option.some.injEq] at e2
 subst e2
 obtain ⟨vs,⟨_,h2⟩,_⟩:=hp
 rcases h2 with ⟨e3,_⟩ | ⟨g',cap',cur',e1,_,hgb,_⟩
 ·rw [e3] at hk;cases hk
 ·rw [e1] at hk
  simp only [Value.ownBlock,Option.some.injEq] at hk
  subst hk
  rw [ht] at hgb
  simp at hgb
theorem grown_bel {w w':World} (h:Below w.heap.size w w') (row:Option Nat):w.grownBy w' row:=⟨h.os,h.tape,h.output,h.size,fun k hk _=>h.block k hk⟩
theorem grown_off {w w':World} {g:Nat} (o:Off g w w'):w.grownBy w' (some g):=⟨o.os,o.tape,o.output,Nat.le_of_eq o.size.symm,fun k _ hk=>o.block k fun e=>hk (by rw [e])⟩
theorem bel_grown {w0 w w':World} {g:Nat} (h:Below w0.heap.size w0 w) (hg:w.grownBy w' (some g)) (hl:w0.heap.size≤g):Below w0.heap.size w0 w':=by
 have:=h.size
 exact ⟨hg.os.trans h.os,hg.tape.trans h.tape,hg.output.trans h.output,by have:=hg.size;omega,fun k hk=>(hg.block k (by omega) (by simp;omega)).trans (h.block k hk)⟩
set_option maxRecDepth 100000 in
set_option maxHeartbeats 16000000 in
theorem rowLinesA (P:Prob) {gy yc:Nat} {ra:Option Addr} (hra0:P.ra = ra) (w:World) (hP:PQ w P) (hK:P.K≤1048576) :
  Calls Tryz.prog 29 #[.slice ra P.rn P.rc,.slice (some ⟨gy,0,none⟩) P.rn yc] w fun e w'=>∃ g,e = .returned (.slice (some ⟨g,0,none⟩) P.rn P.rn)∧LsQ w' w.heap.size (.slice (some ⟨g,0,none⟩) P.rn P.rn) P.rn (fun t=>wRow (unm P t)) (fun _=>1) (fun t _=>(gy,t * 3))∧Below w.heap.size w w':=by
 have hrn:P.rn≤1048576:=by have:=hP.all;have:=tot_len P.ZR P.rn;omega
 have HPW:Hid (PQ w P):=hP
 have hrc:=hP.rc
 have HRA:Hid (P.ra = ra):=hra0
 clear hP hra0
 go_enter Tryz.func29,Tryz.ntmps29
 go_wp2_with (refine wpList_makeL w rfl _ _ rfl P.rn rfl rfl (by omega) ?_)
 intro w1 SM hb1 hz1
 obtain ⟨F,hFw⟩:∃ F,w.heap.size = F:=⟨_,rfl⟩
 have HFW:Hid (w.heap.size = F):=hFw
 rw [hFw] at SM hb1 hz1 ⊢
 obtain ⟨g,hgF⟩:∃ g,F = g:=⟨_,rfl⟩
 have HGF:Hid (F = g):=hgF
 rw [show (Value.slice (some ⟨F,0,none⟩) P.rn P.rn) = Value.slice (some ⟨g,0,none⟩) P.rn P.rn by rw [hgF]] at SM ⊢
 clear hFw hgF
 go_wp2
 go_loopw [13] (fun s13 wr=>∃ (i:Nat) (E:Nat→List Value),i≤P.rn∧s13 = .int .i64 i∧SL wr F 78 2 (.slice (some ⟨g,0,none⟩) P.rn P.rn) P.rn E∧(∀ t,t < i→LnC wr F (E t) (wRow (unm P t)) 1 (fun _=>(gy,t * 3)))∧(∀ t,i≤t→(E t).length = 2)∧Below F w wr) (fun s13 _=>P.rn - (intOf s13).toNat)
 case atStart=>exact ⟨0,_,Nat.zero_le _,rfl,SM,fun t ht=>by omega,fun _ _=>rfl,hb1⟩
 case round =>
  clear SM hb1 hz1
  obtain ⟨i,E,hi,rfl,SE,HLn,HE2,hbr⟩:=hrel
  by_cases hlt:i < P.rn
  ·have hkI:(i:Int) < (P.rn:Int):=by omega
   have hgl:=(SE.lt g rfl)
   have hbw:Below w.heap.size w wr:=by rw [HFW.out];exact hbr
   have hRR:=(HPW.out.below hbw).r
   rw [HRA.out] at hRR
   rcases hRR with h0 | ⟨bv,ov,rfl,hev⟩
   ·omega
   have hV:=hev i hlt
   obtain ⟨nmR,enm⟩:∃ nmR,nmR = (P.R i).nm:=⟨_,rfl⟩
   obtain ⟨nt,ent⟩:∃ nt,nt = (P.R i).nt:=⟨_,rfl⟩
   obtain ⟨hl,ehl⟩:∃ hl,hl = (P.R i).hlo:=⟨_,rfl⟩
   obtain ⟨hh,ehh⟩:∃ hh,hh = (P.R i).hhi:=⟨_,rfl⟩
   have r0:=hV.nm
   obtain ⟨ta,tc,ZT,r1,_,_,_⟩:=hV.terms
   have r2:=hV.hlo
   obtain ⟨pl,al,nl,cl,dl,ml,ll,r3,r4,r5,_⟩:=hV.lo
   have r6:=hV.hhi
   obtain ⟨ph,ah,nh,ch,dh,mh,lh,r7,r8,r9,_⟩:=hV.hi
   rw [← enm] at r0
   rw [← ent] at r1
   rw [← ehl] at r2
   rw [← ehh] at r6
   have HNM:Hid (nmR = (P.R i).nm):=enm
   have hnz:nmR.size≤1048576:=by
    rw [enm]
    have h1:=hV.snm
    have h2:=tot_leS2 (Z:=P.ZR) hlt
    have h3:=HPW.out.all
    omega
   have hsz:¬ 9223372036854775807 < (⟨#[114,111,119,32]⟩:ByteArray).size + nmR.size:=by rw [show (⟨#[114,111,119,32]⟩:ByteArray).size = 4 from rfl];omega
   have hsz2:¬ 9223372036854775807 < 4 + nmR.size:=by omega
   have hkI2:(i:Int) * 10 = ((i * 10:Nat):Int):=by omega
   have hkI3:(i:Int) * 3 = ((i * 3:Nat):Int):=by omega
   have hkI4:(i:Int) * 2 = ((i * 2:Nat):Int):=by omega
   have hx:=bel_d0 wr (.cells #[.string nmR,.slice ta nt tc,.bool hl,.bool pl,.slice al nl cl,.slice dl ml ll,.bool hh,.bool ph,.slice ah nh ch,.slice dh mh lh] 54)
   have NB:=box_new wr #[.string nmR,.slice ta nt tc,.bool hl,.bool pl,.slice al nl cl,.slice dl ml ll,.bool hh,.bool ph,.slice ah nh ch,.slice dh mh lh] 54
   have HLH:Hid (∀ t,t < i→LnC wr F (E t) (wRow (unm P t)) 1 (fun _=>(gy,t * 3))):=HLn
   have HEH:Hid (∀ t,i≤t→(E t).length = 2):=HE2
   have HBR:Hid (Below F w wr):=hbr
   have SE0:=SE
   replace SE:=SE.below hx
   have hFr:F≤wr.heap.size:=by have:=hbr.size;have:=HFW.out;omega
   clear hev hV enm ent ehl ehh HLn HE2 hbr hbw
   go_wp2_with fail
   clear r0 r1 r2 r3 r4 r5 r6 r7 r8 r9
   obtain ⟨vb,hvb⟩:∃ vb,wr.heap.size = vb:=⟨_,rfl⟩
   rw [hvb] at NB hx hFr ⊢
   have HVB:Hid (wr.heap.size = vb):=hvb
   have hs1:(wr.alloc (.cells #[.string nmR,.slice ta nt tc,.bool hl,.bool pl,.slice al nl cl,.slice dl ml ll,.bool hh,.bool ph,.slice ah nh ch,.slice dh mh lh] 54)).heap.size = vb + 1:=by rw [← hvb];simp
   generalize wr.alloc (.cells #[.string nmR,.slice ta nt tc,.bool hl,.bool pl,.slice al nl cl,.slice dl ml ll,.bool hh,.bool ph,.slice ah nh ch,.slice dh mh lh] 54) = W1 at *
   clear hvb
   have HBX:∀ w',Below W1.heap.size W1 w'→w'.cell? ⟨vb,0,none⟩ = some (.string nmR):=fun w' h=>kept_c h (NB 0 _ rfl)
   refine wp_region_noPanic (wp_region_guard (Till 10 10 (fun w'=>w'.cell? ⟨vb,0,none⟩ = some (.string nmR)) (fun _=>True)) (by as_aux_lemma=>kernel_rfl) ?_)
   have hc0:Below W1.heap.size W1 W1.drew:=bel_d1 _
   generalize W1.drew = z0 at *
   refine wpAnyG.tT 0 (v:=.slice (some ⟨g,0,none⟩) P.rn P.rn) (by decide) 10 (by as_aux_lemma=>kernel_rfl) (by rfl) ?y0 (HBX _ hc0) ?_
   case y0 =>
    rintro w' q0
    simp only [lgA,lgZ]
    go_simp
   simp only [lgA,lgZ,Act.put,lsA,lsZ,lsS]
   refine wpAnyG.tT 1 (v:=.int .i64 (i:Int)) (by decide) 10 (by as_aux_lemma=>kernel_rfl) (by rfl) ?y1 (HBX _ hc0) ?_
   case y1 =>
    rintro w' q0
    simp only [lgA,lgZ,lgS]
    go_simp
   simp only [lgA,lgZ,lgS,Act.put,lsA,lsZ,lsS]
   refine wpAnyG.tT 2 (v:=.pointer (some ⟨vb,0,none⟩)) (by decide) 10 (by as_aux_lemma=>kernel_rfl) (by rfl) ?y2 (HBX _ hc0) ?_
   case y2 =>
    rintro w' q0
    simp only [lgA,lgZ,lgS]
    go_simp
   simp only [lgA,lgZ,lgS,Act.put,lsA,lsZ,lsS]
   refine wpAnyG.tT 3 (v:=.string nmR) (by decide) 10 (by as_aux_lemma=>kernel_rfl) (by rfl) ?y3 (HBX _ hc0) ?_
   case y3 =>
    rintro w' q0
    simp only [lgA,lgZ,lgS]
    go_simp
   simp only [lgA,lgZ,lgS,Act.put,lsA,lsZ,lsS]
   refine wpAnyG.tT 4 (v:=.string (⟨#[114,111,119,32]⟩ ++ nmR)) (by decide) 10 (by as_aux_lemma=>kernel_rfl) (by rfl) ?y4 (HBX _ hc0) ?_
   case y4 =>
    rintro w' q0
    simp only [lgA,lgZ,lgS]
    go_simp
   simp only [lgA,lgZ,lgS,Act.put,lsA,lsZ,lsS]
   refine wpAnyG.tT 5 (v:=.slice (some ⟨gy,0,none⟩) P.rn yc) (by decide) 10 (by as_aux_lemma=>kernel_rfl) (by rfl) ?y5 (HBX _ hc0) ?_
   case y5 =>
    rintro w' q0
    simp only [lgA,lgZ,lgS]
    go_simp
   simp only [lgA,lgZ,lgS,Act.put,lsA,lsZ,lsS]
   refine wpAnyG.tT 6 (v:=.int .i64 (i:Int)) (by decide) 10 (by as_aux_lemma=>kernel_rfl) (by rfl) ?y6 (HBX _ hc0) ?_
   case y6 =>
    rintro w' q0
    simp only [lgA,lgZ,lgS]
    go_simp
   simp only [lgA,lgZ,lgS,Act.put,lsA,lsZ,lsS]
   refine wpAnyG.tT 7 (v:=.pointer (some ⟨gy,i * 3,none⟩)) (by decide) 10 (by as_aux_lemma=>kernel_rfl) (by rfl) ?y7 (HBX _ hc0) ?_
   case y7 =>
    rintro w' q0
    simp only [lgA,lgZ,lgS]
    go_simp
   simp only [lgA,lgZ,lgS,Act.put,lsA,lsZ,lsS]
   refine wpAnyG.one 8 (by as_aux_lemma=>kernel_rfl) (by decide) (by rfl) (fun K hK=>?_)
   simp only [lgA,lgZ,lgS]
   go_simp
   have hy:=bel_d0 z0 (.cells #[.pointer (some ⟨gy,i * 3,none⟩)] 82)
   have SB:=sl_box1 (w:=z0) (B:=z0.heap.size) (T:=82) (cs:=#[.pointer (some ⟨gy,i * 3,none⟩)]) rfl (Nat.le_refl _)
   have hc1:Below W1.heap.size W1 (z0.alloc (.cells #[.pointer (some ⟨gy,i * 3,none⟩)] 82)):=bel_tr hc0 hy
   obtain ⟨hz,hHz⟩:∃ hz,z0.heap.size = hz:=⟨_,rfl⟩
   rw [hHz] at SB ⊢
   generalize z0.alloc (.cells #[.pointer (some ⟨gy,i * 3,none⟩)] 82) = z1 at *
   refine hK _ _ ⟨fun _=>HBX _ hc1,fun _=>trivial⟩ ?_
   clear hK K
   refine wpAnyG.one 9 (by as_aux_lemma=>kernel_rfl) (by decide) (by rfl) (fun K hK=>?_)
   simp only [lgA,lgZ,lgS]
   go_simp
   refine hK _ _ ⟨fun _=>HBX _ hc1,fun _=>trivial⟩ ?_
   clear hK K
   refine wpAnyG.one 10 (by as_aux_lemma=>kernel_rfl) (by decide) (by rfl) (fun K hK=>?_)
   simp only [lgA,lgZ,lgS]
   go_simp
   refine hK _ _ ⟨fun h=>absurd h (by decide),fun _=>trivial⟩ ?_
   clear hK K
   refine wpAnyG.one 11 (by as_aux_lemma=>kernel_rfl) (by decide) (by rfl) (fun K hK=>?_)
   simp only [lgA,lgZ,lgS]
   obtain ⟨cur,hg1,hg2,hg3⟩:=(SE.below hc1).there
   obtain ⟨u0,d0⟩:∃ u,z1.cell? ⟨g,i * 2,none⟩ = some u:=⟨_,(cell_of_row z1 g _ cur _ (0,0) hg1).trans (Array.getElem?_eq_getElem (by omega))⟩
   obtain ⟨u1,d1⟩:∃ u,z1.cell? ⟨g,i * 2 + 1,none⟩ = some u:=⟨_,(cell_of_row z1 g _ cur _ (0,0) hg1).trans (Array.getElem?_eq_getElem (by omega))⟩
   have df0:=frozen_of_row z1 g (i * 2) cur _ hg1
   have df1:=frozen_of_row z1 g (i * 2 + 1) cur _ hg1
   go_simp
   refine hK _ _ ⟨fun h=>absurd h (by decide),fun _=>trivial⟩ ?_
   clear hK K
   refine wpAnyG.done (by as_aux_lemma=>kernel_rfl) (NoPanic.normal ?_)
   have SZ:=(SE.below hc1)
   have S9:=SZ.put2 (i:=i) (a:=.string (⟨#[114,111,119,32]⟩ ++ nmR)) (b:=.slice (some ⟨hz,0,none⟩) 1 1) hlt (HEH.out i (Nat.le_refl _))
   have O9:Off g z1 ((z1.setCell ⟨g,i * 2,none⟩ (.string (⟨#[114,111,119,32]⟩ ++ nmR))).setCell ⟨g,i * 2 + 1,none⟩ (.slice (some ⟨hz,0,none⟩) 1 1)):=((Off.refl _ _).set (i * 2) _).set (i * 2 + 1) _
   have hG1:wr.grownBy z1 (some g):=grown_bel (by rw [HVB.out];exact (hx.trans (hc1.mono (by omega)))) _
   have hG2:=hG1.trans (grown_off O9)
   obtain ⟨cw,hcw,_,hgF2⟩:=SE0.there
   have hb9:Below F w ((z1.setCell ⟨g,i * 2,none⟩ (.string (⟨#[114,111,119,32]⟩ ++ nmR))).setCell ⟨g,i * 2 + 1,none⟩ (.slice (some ⟨hz,0,none⟩) 1 1)):=by
    have h1:Below w.heap.size w wr:=by rw [HFW.out];exact HBR.out
    have h2:=bel_grown h1 hG2 (by rw [HFW.out];exact hgF2)
    rw [HFW.out] at h2
    exact h2
   have L9:∀ t,t < i + 1→LnC ((z1.setCell ⟨g,i * 2,none⟩ (.string (⟨#[114,111,119,32]⟩ ++ nmR))).setCell ⟨g,i * 2 + 1,none⟩ (.slice (some ⟨hz,0,none⟩) 1 1)) F ((fun q=>if q = i then [.string (⟨#[114,111,119,32]⟩ ++ nmR),.slice (some ⟨hz,0,none⟩) 1 1] else E q) t) (wRow (unm P t)) 1 (fun _=>(gy,t * 3)):=fun t ht=>by
    rcases (by omega:t < i∨t = i) with h | rfl
    ·simp only [show ¬ t = i by omega,if_false]
     exact (HLH.out t h).kept hG2 hcw
    ·simp only [if_true]
     refine ⟨_,_,rfl,?_,?_⟩
     ·rw [HNM.out]
      show (⟨#[114,111,119,32]⟩ ++ (P.R t).nm:ByteArray).data.toList = _
      rw [ByteArray.data_append,Array.toList_append]
      rfl
     ·have hp:SL ((z1.setCell ⟨g,t * 2,none⟩ (.string (⟨#[114,111,119,32]⟩ ++ nmR))).setCell ⟨g,t * 2 + 1,none⟩ (.slice (some ⟨hz,0,none⟩) 1 1)) hz 82 1 (.slice (some ⟨hz,0,none⟩) 1 1) 1 (fun _=>[.pointer (some ⟨gy,t * 3,none⟩)]):=by
       have hk:Kb F [78] z1 ((z1.setCell ⟨g,t * 2,none⟩ (.string (⟨#[114,111,119,32]⟩ ++ nmR))).setCell ⟨g,t * 2 + 1,none⟩ (.slice (some ⟨hz,0,none⟩) 1 1)):=kb_off hg1 hg3 O9
       exact SB.kb hk (by decide)
      exact hp.mono (by have:=hc0.size;omega)
   have E9:∀ t,i + 1≤t→((fun q=>if q = i then [Value.string (⟨#[114,111,119,32]⟩ ++ nmR),Value.slice (some ⟨hz,0,none⟩) 1 1] else E q) t).length = 2:=fun t ht=>by
    simp only [show ¬ t = i by omega,if_false]
    exact HEH.out t (by omega)
   clear SE SE0 SZ SB O9 hG1 hG2 hcw HLH HEH HBR NB HBX hc0 hc1 d0 d1 df0 df1 hg1 hx hy
   generalize (z1.setCell ⟨g,i * 2,none⟩ (.string (⟨#[114,111,119,32]⟩ ++ nmR))).setCell ⟨g,i * 2 + 1,none⟩ (.slice (some ⟨hz,0,none⟩) 1 1) = w9 at *
   go_wp2
   go_roundw
   case rel=>first | exact ⟨i + 1,_,by omega,by go_num,S9,L9,E9,hb9⟩ | ((repeat apply Exists.intro);refine ⟨?_,rfl⟩;exact ⟨i + 1,_,by omega,by go_num,S9,L9,E9,hb9⟩)
   case measure=>simp [intOf];omega
  ·have hkI:¬ (i:Int) < (P.rn:Int):=by omega
   obtain rfl:i = P.rn:=by omega
   go_wp2
   go_ret
   exact ⟨g,rfl,by rw [HFW.out];exact ⟨E,SE,HLn⟩,by rw [HFW.out];exact hbr⟩
theorem rowLinesQ (P:Prob) {gy yc:Nat} (w:World) (hP:PQ w P) (hK:P.K≤1048576) :
  Calls Tryz.prog 29 #[.slice P.ra P.rn P.rc,.slice (some ⟨gy,0,none⟩) P.rn yc] w fun e w'=>∃ g,e = .returned (.slice (some ⟨g,0,none⟩) P.rn P.rn)∧LsQ w' w.heap.size (.slice (some ⟨g,0,none⟩) P.rn P.rn) P.rn (fun t=>wRow (unm P t)) (fun _=>1) (fun t _=>(gy,t * 3))∧Below w.heap.size w w':=rowLinesA P rfl w hP hK
end Go.Proofs.YtnkpbjmfdfjeiaaGreatDoor
