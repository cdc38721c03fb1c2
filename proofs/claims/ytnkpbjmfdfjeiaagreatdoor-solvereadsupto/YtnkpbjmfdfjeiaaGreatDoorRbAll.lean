import Derived.Test.YtnkpbjmfdfjeiaaGreatDoorTxtAll
import Derived.Test.YtnkpbjmfdfjeiaaGreatDoorR4All
import Derived.Test.YtnkpbjmfdfjeiaaGreatDoorLxWAll
import Derived.Test.YtnkpbjmfdfjeiaaGreatDoorPqCAll
import Derived.Deep.Upon
import Derived.Laws.IdiomStrings
namespace Go.Proofs.YtnkpbjmfdfjeiaaGreatDoor
open Go.RowKit
theorem txtQ_pos (r:Rat):0 < (txtQ r).size:=by
 have:=txtI_pos r.num
 unfold txtQ
 split
 ·exact this
 ·rw [ByteArray.size_append,ByteArray.size_append];omega
theorem byt_left {a b:ByteArray} {i:Nat} (h:i < a.size):byt (a ++ b) i = byt a i:=by
 have hi:i < a.data.toList.length:=by simpa using h
 unfold byt
 rw [ByteArray.data_append,Array.toList_append]
 simp only [List.getD,List.getElem?_append_left hi]
theorem byt_right {a b:ByteArray} {i:Nat} (h:a.size≤i):byt (a ++ b) i = byt b (i - a.size):=by
 have hi:a.data.toList.length≤i:=by simpa using h
 unfold byt
 rw [ByteArray.data_append,Array.toList_append]
 simp only [List.getD,List.getElem?_append_right hi]
 congr 3
theorem txtI_byte (x:Int) {i:Nat} (h:i < (txtI x).size):(48≤byt (txtI x) i∧byt (txtI x) i≤57)∨(byt (txtI x) i = 45∧i = 0):=by
 unfold txtI at h ⊢
 split at h
 ·rename_i hx
  rw [if_pos hx]
  have e1:(strOfNums [45]).size = 1:=by rw [strOfNums_size];rfl
  rw [ByteArray.size_append,e1] at h
  rcases (by omega:i = 0∨1≤i) with rfl | hi
  ·right
   rw [byt_left (by omega)]
   exact ⟨by decide,rfl⟩
  ·left
   rw [byt_right (by omega),e1]
   exact digs_txt _ _ (by omega)
 ·rename_i hx
  rw [if_neg hx]
  exact .inl (digs_txt _ _ h)
theorem txtQ_byte (r:Rat) {i:Nat} (h:i < (txtQ r).size):(48≤byt (txtQ r) i∧byt (txtQ r) i≤57)∨(byt (txtQ r) i = 45∧i = 0)∨byt (txtQ r) i = 47:=by
 unfold txtQ at h ⊢
 split at h
 ·rename_i hx
  rw [if_pos hx]
  rcases txtI_byte _ h with h | h
  ·exact .inl h
  ·exact .inr (.inl h)
 ·rename_i hx
  rw [if_neg hx]
  have e1:({ data:=#[47] }:ByteArray).size = 1:=rfl
  rw [ByteArray.size_append,ByteArray.size_append,e1] at h
  rcases (by omega:i < (txtI r.num).size∨i = (txtI r.num).size∨(txtI r.num).size + 1≤i) with hi | hi | hi
  ·rw [byt_left (by rw [ByteArray.size_append];omega),byt_left hi]
   rcases txtI_byte _ hi with h | h
   ·exact .inl h
   ·exact .inr (.inl h)
  ·right;right
   rw [byt_left (by rw [ByteArray.size_append,e1];omega),byt_right (by omega),hi,Nat.sub_self]
   decide
  ·left
   rw [byt_right (by rw [ByteArray.size_append,e1];omega),ByteArray.size_append,e1]
   exact digs_txt _ _ (by omega)
theorem txt_inj {u v:Nat} (h:txt u = txt v):u = v:=by
 have h1:=rd_txt u
 rw [h,rd_txt v] at h1
 omega
theorem txtI_inj {x y:Int} (h:txtI x = txtI y):x = y:=by
 have h1:=cut_txtI x
 rw [h,cut_txtI y] at h1
 simp only [Prod.mk.injEq] at h1
 have h2:=txt_inj h1.2
 have h3:=h1.1
 rw [decide_eq_decide] at h3
 omega
theorem txtQ_inj {r s:Rat} (h:txtQ r = txtQ s):r = s:=by
 have no:∀ x:Int,(47:UInt8) ∉ (txtI x).data.toList:=fun x hm=>by rcases txtI_mem x hm with h | h <;> revert h <;> decide
 have yes:∀ (a b:ByteArray),(47:UInt8) ∈ (a ++ ⟨#[47]⟩ ++ b).data.toList:=fun a b=>by
  rw [ByteArray.data_append,ByteArray.data_append,Array.toList_append,Array.toList_append];simp
 have ix:∀ (x:Int) (b:ByteArray),Lib.indexByte (txtI x ++ ⟨#[47]⟩ ++ b).data.toList 47 = ((txtI x).size:Int):=fun x b=>by
  rw [ByteArray.data_append,ByteArray.data_append,Array.toList_append,Array.toList_append,List.append_assoc]
  have:=ixb_at (l:=(txtI x).data.toList) (r:=b.data.toList) (c:=47) (no x)
  simpa using this
 unfold txtQ at h
 by_cases h1:r.den = 1 <;> by_cases h2:s.den = 1
 ·rw [if_pos h1,if_pos h2] at h
  exact Rat.ext (txtI_inj h) (by rw [h1,h2])
 ·rw [if_pos h1,if_neg h2] at h
  exact absurd (h ▸ yes (txtI s.num) (txt s.den)) (no r.num)
 ·rw [if_neg h1,if_pos h2] at h
  exact absurd (h ▸ yes (txtI r.num) (txt r.den)) (no s.num)
 ·rw [if_neg h1,if_neg h2] at h
  have e1:=ix r.num (txt r.den)
  rw [h,ix s.num (txt s.den)] at e1
  obtain ⟨a1,a2⟩:=ext_ab (txtI r.num) (txt r.den) 47
  obtain ⟨b1,b2⟩:=ext_ab (txtI s.num) (txt s.den) 47
  have e2:(txtI s.num).size = (txtI r.num).size:=by omega
  rw [h,← e2] at a1 a2
  have c1:=b1.symm.trans a1
  have c2:=b2.symm.trans a2
  exact Rat.ext (txtI_inj c1).symm (txt_inj c2).symm
end Go.Proofs.YtnkpbjmfdfjeiaaGreatDoor
namespace Go.Proofs.YtnkpbjmfdfjeiaaGreatDoor
open Go.RowKit Go.Shelf
end Go.Proofs.YtnkpbjmfdfjeiaaGreatDoor
namespace Go.Proofs.YtnkpbjmfdfjeiaaGreatDoor
def nbB:List UInt8:=[45,47,48,49,50,51,52,53,54,55,56,57]
def tq (r:Rat):List UInt8:=(txtQ r).data.toList
theorem nb_of:∀ b:UInt8,(48≤b.toNat∧b.toNat≤57)∨b.toNat = 45∨b.toNat = 47→nbB.contains b = true :=
 byte_all (p:=fun b=>(48≤b.toNat∧b.toNat≤57)∨b.toNat = 45∨b.toNat = 47→nbB.contains b = true) (by decide +kernel)
theorem tq_nb (r:Rat):∀ b ∈ tq r,nbB.contains b = true:=fun b hb=>by
 obtain ⟨i,h1,h2⟩:=List.getElem_of_mem hb
 have h3:i < (txtQ r).size:=by
  have:=len_list (txtQ r)
  unfold tq at h1
  omega
 have h4:byt (txtQ r) i = (b.toNat:Int):=by
  unfold byt
  have h6:(txtQ r).data.toList[i]? = some b:=by
   have:=List.getElem?_eq_getElem h1
   rw [h2] at this
   exact this
  rw [List.getD_eq_getElem?_getD,h6]
  rfl
 have h5:=txtQ_byte r h3
 rw [h4] at h5
 exact nb_of b (by omega)
theorem tq_inj {r s:Rat} (h:tq r = tq s):r = s:=txtQ_inj (ba_eq h)
def NoN (m:List UInt8):Prop:=∀ b t,m = b :: t→nbB.contains b = false
theorem nb_split {m m':List UInt8} (hm:NoN m) (hm':NoN m'):∀ {a a':List UInt8},(∀ b ∈ a,nbB.contains b = true)→(∀ b ∈ a',nbB.contains b = true)→a ++ m = a' ++ m'→a = a'∧m = m'
 | [],[],_,_,h=>⟨rfl,h⟩
 | [],b :: t,_,h2,h=>by
  have e1:=hm b (t ++ m') h
  have e2:=h2 b (List.mem_cons_self ..)
  rw [e1] at e2;cases e2
 | b :: t,[],h1,_,h=>by
  have e1:=hm' b (t ++ m) h.symm
  have e2:=h1 b (List.mem_cons_self ..)
  rw [e1] at e2;cases e2
 | b :: t,b' :: t',h1,h2,h=>by
  simp only [List.cons_append,List.cons.injEq] at h
  obtain ⟨rfl,h⟩:=h
  obtain ⟨e1,e2⟩:=nb_split hm hm' (fun x hx=>h1 x (List.mem_cons_of_mem _ hx)) (fun x hx=>h2 x (List.mem_cons_of_mem _ hx)) h
  exact ⟨by rw [e1],e2⟩
def Nu (l:List UInt8) (r:Rat) (m:List UInt8):Prop:=l = 32 :: (tq r ++ m)∧NoN m
theorem Nu.uniq {l:List UInt8} {r r':Rat} {m m':List UInt8} (h:Nu l r m) (h':Nu l r' m'):r = r'∧m = m':=by
 obtain ⟨e,h2⟩:=h
 obtain ⟨e',h2'⟩:=h'
 rw [e] at e'
 simp only [List.cons.injEq,true_and] at e'
 obtain ⟨e1,e2⟩:=nb_split h2 h2' (tq_nb r) (tq_nb r') e'
 exact ⟨tq_inj e1,e2⟩
def Nus:List UInt8→List Rat→List UInt8→Prop
 | l,[],m=>l = m
 | l,r :: rs,m=>∃ n,Nu l r n∧Nus n rs m
theorem Nus.uniq:∀ {rs rs':List Rat} {l m m':List UInt8},rs.length = rs'.length→Nus l rs m→Nus l rs' m'→rs = rs'∧m = m'
 | [],[],_,_,_,_,h,h'=>⟨rfl,h.symm.trans h'⟩
 | [],_ :: _,_,_,_,e,_,_=>by simp at e
 | _ :: _,[],_,_,_,e,_,_=>by simp at e
 | r :: rs,r' :: rs',l,m,m',e,⟨n,h1,h2⟩,⟨n',h1',h2'⟩=>by
  obtain ⟨rfl,rfl⟩:=h1.uniq h1'
  obtain ⟨rfl,rfl⟩:=Nus.uniq (by simpa using e) h2 h2'
  exact ⟨rfl,rfl⟩
def Ln (l w:List UInt8) (rs:List Rat) (m:List UInt8):Prop:=∃ a,l = w ++ a∧Nus a rs (10 :: m)
theorem Ln.uniq {l w:List UInt8} {rs rs':List Rat} {m m':List UInt8} (e:rs.length = rs'.length) (h:Ln l w rs m) (h':Ln l w rs' m'):rs = rs'∧m = m':=by
 obtain ⟨a,rfl,h1⟩:=h
 obtain ⟨a',e',h1'⟩:=h'
 obtain rfl:=List.append_cancel_left e'
 obtain ⟨e1,e2⟩:=Nus.uniq e h1 h1'
 exact ⟨e1,by simpa using e2⟩
def Lns (W:Nat→List UInt8) (K:Nat→Nat) (l:List UInt8) (R:Nat→List Rat) (n:Nat) (a:List UInt8):Prop :=
 ∃ p:Nat→List UInt8,p 0 = l∧p n = a∧∀ t,t < n→(R t).length = K t∧Ln (p t) (W t) (R t) (p (t + 1))
section
variable {W:Nat→List UInt8} {K:Nat→Nat} {l:List UInt8} {R R':Nat→List Rat} {n m:Nat} {a a' b:List UInt8}
theorem Lns.zero (W:Nat→List UInt8) (K:Nat→Nat) (l:List UInt8) (R:Nat→List Rat):Lns W K l R 0 l:=⟨fun _=>l,rfl,rfl,fun _ h=>absurd h (Nat.not_lt_zero _)⟩
theorem Lns.uniq (h:Lns W K l R n a) (h':Lns W K l R' n a'):(∀ t,t < n→R t = R' t)∧a = a':=by
 obtain ⟨p,p0,pn,hp⟩:=h
 obtain ⟨q,q0,qn,hq⟩:=h'
 have key:∀ t,t≤n→p t = q t:=by
  intro t
  induction t with
  | zero=>intro _;rw [p0,q0]
  | succ t ih =>
   intro ht
   have e:=ih (by omega)
   obtain ⟨h1,h2⟩:=hp t (by omega)
   obtain ⟨h3,h4⟩:=hq t (by omega)
   rw [← e] at h4
   exact (h2.uniq (by rw [h1,h3]) h4).2
 refine ⟨fun t ht=>?_,by rw [← pn,← qn];exact key n (Nat.le_refl _)⟩
 obtain ⟨h1,h2⟩:=hp t ht
 obtain ⟨h3,h4⟩:=hq t ht
 rw [← key t (by omega)] at h4
 exact (h2.uniq (by rw [h1,h3]) h4).1
def putR (R:Nat→List Rat) (n:Nat) (rs:List Rat):Nat→List Rat:=fun t=>if t = n then rs else R t
theorem putR_at (R:Nat→List Rat) (n:Nat) (rs:List Rat):putR R n rs n = rs:=if_pos rfl
theorem putR_off (R:Nat→List Rat) {n t:Nat} (rs:List Rat) (h:t < n):putR R n rs t = R t:=if_neg (by omega)
theorem Lns.snoc {rs:List Rat} (h:Lns W K l R n a) (hk:rs.length = K n) (hl:Ln a (W n) rs b):Lns W K l (putR R n rs) (n + 1) b:=by
 obtain ⟨p,p0,pn,hp⟩:=h
 refine ⟨fun t=>if t = n + 1 then b else p t,?_,if_pos rfl,fun t ht=>?_⟩
 ·show (if 0 = n + 1 then b else p 0) = l
  rw [if_neg (by omega)];exact p0
 ·show (putR R n rs t).length = K t∧Ln (if t = n + 1 then b else p t) (W t) (putR R n rs t) (if t + 1 = n + 1 then b else p (t + 1))
  rw [if_neg (show ¬ t = n + 1 by omega)]
  rcases Nat.lt_or_ge t n with h1 | h1
  ·rw [putR_off _ _ h1,if_neg (show ¬ t + 1 = n + 1 by omega)]
   exact hp t h1
  ·obtain rfl:t = n:=by omega
   rw [putR_at,if_pos rfl,pn]
   exact ⟨hk,hl⟩
theorem Lns.none (h:Lns W K l R n a) (hl:∀ rs b,rs.length = K n→¬ Ln a (W n) rs b) (hm:n < m):¬ Lns W K l R' m b:=fun h'=>by
 obtain ⟨p,p0,pn,hp⟩:=h'
 have h2:Lns W K l R' n (p n):=⟨p,p0,rfl,fun t ht=>hp t (by omega)⟩
 obtain ⟨_,e⟩:=h.uniq h2
 obtain ⟨h3,h4⟩:=hp n hm
 rw [← e] at h4
 exact hl _ _ h3 h4
end
def wdV (v:Nat):List UInt8:=if v = 1 then [111,112,116,105,109,97,108] else if v = 2 then [105,110,102,101,97,115,105,98,108,101] else [117,110,98,111,117,110,100,101,100]
def wEnd:List UInt8:=[101,110,100]
def wVal:List UInt8:=[118,97,108,117,101]
def wVar (nm:ByteArray):List UInt8:=[118,97,114,32] ++ nm.data.toList
def wRow (nm:ByteArray):List UInt8:=[114,111,119,32] ++ nm.data.toList
def hdV (v:Nat):Nat:=if v = 1 then 2 else 1
def nvV (v vn:Nat):Nat:=if v = 2 then 0 else vn
def nrV (v rn:Nat):Nat:=if v = 3 then 0 else rn
def lnsW (v vn:Nat) (V:Nat→ByteArray) (rn:Nat) (U:Nat→ByteArray) (t:Nat):List UInt8 :=
 if t = 0 then wdV v else if t < hdV v then wVal else if t < hdV v + nvV v vn then wVar (V (t - hdV v)) else if t < hdV v + nvV v vn + nrV v rn then wRow (U (t - hdV v - nvV v vn)) else wEnd
def lnsK (v vn rn:Nat) (t:Nat):Nat :=
 if t = 0 then 0 else if t < hdV v then 1 else if t < hdV v + nvV v vn then (if v = 3 then 2 else 1) else if t < hdV v + nvV v vn + nrV v rn then 1 else 0
def lnsN (v vn rn:Nat):Nat:=hdV v + nvV v vn + nrV v rn + 1
def Ans (v vn:Nat) (V:Nat→ByteArray) (rn:Nat) (U:Nat→ByteArray) (l:List UInt8) (R:Nat→List Rat):Prop:=Lns (lnsW v vn V rn U) (lnsK v vn rn) l R (lnsN v vn rn) []
theorem Ans.head {v vn rn:Nat} {V U:Nat→ByteArray} {l:List UInt8} {R:Nat→List Rat} (h:Ans v vn V rn U l R):∃ m,l = wdV v ++ 10 :: m:=by
 obtain ⟨p,p0,pn,hp⟩:=h
 obtain ⟨h1,a,h2,h3⟩:=hp 0 (Nat.succ_pos _)
 rw [show lnsK v vn rn 0 = 0 from if_pos rfl,List.length_eq_zero_iff] at h1
 rw [h1] at h3
 rw [show lnsW v vn V rn U 0 = wdV v from if_pos rfl,p0] at h2
 exact ⟨p 1,by rw [h2];exact congrArg _ h3⟩
end Go.Proofs.YtnkpbjmfdfjeiaaGreatDoor
namespace Go.Proofs.YtnkpbjmfdfjeiaaGreatDoor
open Go.RowKit
def lbC (s:ByteArray):List Value:=byteCells s ++ [.int .u8 1,.int .u8 2,.int .u8 3]
theorem lbC_len (s:ByteArray):(lbC s).length = s.size + 3:=by unfold lbC byteCells;simp
structure LB (w:World) (g:Nat) (s:ByteArray):Prop where
 cells:∀ j,j < s.size + 3→w.cell? ⟨g,j,none⟩ = (lbC s)[j]?
 free:∀ j,j < s.size + 3→w.frozen? ⟨g,j,none⟩ = false
theorem LB.below {w w':World} {g:Nat} {s:ByteArray} (h:LB w g s) (hg:g < w.heap.size) (hb:Below w.heap.size w w'):LB w' g s :=
 ⟨fun j hj=>(World.cell?_of_block (w:=w) (a:=⟨g,j,none⟩) (hb.block g hg)).trans (h.cells j hj),fun j hj=>(World.frozen?_of_block (w:=w) (a:=⟨g,j,none⟩) (hb.block g hg)).trans (h.free j hj)⟩
theorem off_sets (b:Nat):∀ (vs:List Value) (o:Nat) (w:World),Off b w (w.setCells b o vs)
 | [],_,w=>Off.refl b w
 | v :: r,o,w=>((Off.refl b w).set o v).trans (off_sets b r (o + 1) _)
theorem infByte:Inf 5 1 1:=inf_of (by kernel_rfl)
theorem app3 {W z:World} {G H n cap:Nat} {s:ByteArray} (hn:n = s.size) (hs:s.size≤1048576) (hc:Came W 1 (some ⟨G,0,none⟩) G 0 n cap (byteCells s)) (hG:G < W.heap.size) (hfr:∀ j,j < n→W.frozen? ⟨G,j,none⟩ = false) (hz:z = W.alloc (.cells #[.int .u8 1,.int .u8 2,.int .u8 3] 5)) (hH:W.heap.size = H) (ty:TypeId) :
  ∃ g c w',(Builtin.append_ #[38,38] ty #[.slice (some ⟨G,0,none⟩) n cap,.slice (some ⟨H,0,none⟩) 3 3]).run Tryz.prog z = .ok (.slice (some ⟨g,0,none⟩) (n + 3) c) w'∧n + 3≤c∧LB w' g s∧G≤g∧g < w'.heap.size∧Below G z w':=by
 obtain ⟨i0,z0,hi,hz0,hs1,hb1,hzs⟩:=infByte
 have hU0:=(Upon.start (e:=5) hc).alloc hc (.cells #[.int .u8 1,.int .u8 2,.int .u8 3] 5)
 rw [← hz] at hU0
 have hsz:z.heap.size = H + 1:=by rw [hz,← hH];simp
 have hcell:∀ j u,([.int .u8 1,.int .u8 2,.int .u8 3]:List Value)[j]? = some u→z.cell? ((⟨H,0,none⟩:Addr).add j) = some u:=fun j u hj=>by
  have hj3:j < 3:=(List.getElem?_eq_some_iff.1 hj).1
  have e:(⟨H,0,none⟩:Addr).add j = ⟨H,j,none⟩:=by
   rcases (by omega:j = 0∨j = 1∨j = 2) with rfl | rfl | rfl <;> simp [Addr.add]
  rw [e,hz,← hH]
  exact (World.cell?_alloc_new W _ _ j).trans (by simpa using hj)
 have hS:=Src.ofSlice (P:=Tryz.prog) (size:=1) (tx:=38) (w:=z) Tryz.underlying38 ⟨H,0,none⟩ 3 3 [.int .u8 1,.int .u8 2,.int .u8 3] rfl hcell (fun u hu=>by simp at hu;rcases hu with rfl | rfl | rfl <;> rfl)
 obtain ⟨v',w',hrun,hU⟩:=run_append_upon (P:=Tryz.prog) hc 38 38 ty i0 z0 1 Tryz.underlying38 hi hz0 hs1 hb1 hzs hU0 _ 3 _ hS (by unfold maxLen;omega) (by omega)
 have hcat:byteCells s ++ ([] ++ [.int .u8 1,.int .u8 2,.int .u8 3]) = lbC s:=rfl
 rcases hU.val with ⟨h1,h2,h3⟩ | ⟨h1,g,c',h2,ho⟩
 ·have hroom:=run_append_room_src (P:=Tryz.prog) z 38 38 ty 5 i0 Tryz.underlying38 hi G 0 n cap (.slice (some ⟨H,0,none⟩) 3 3) 3 [.int .u8 1,.int .u8 2,.int .u8 3] (by rw [hs1];exact hS) (by omega) (fun j hj=>by
    have hj':j < 3:=hj
    have:=(hc.spare j (by omega)).1
    rw [hs1,← World.cell?_of_block (w:=W) (w':=z) (a:=⟨G,0 + n * 1 + j,none⟩) (by rw [hz];exact Below.heap_alloc W _ G hG)] at *
    exact this) (fun j hj=>by
    have hj':j < 3:=hj
    have:=(hc.spare j (by omega)).2
    rw [hs1,← World.frozen?_of_block (w:=W) (w':=z) (a:=⟨G,0 + n * 1 + j,none⟩) (by rw [hz];exact Below.heap_alloc W _ G hG)] at *
    exact this)
  have e1:v' = .slice (some ⟨G,0,none⟩) (n + 3) cap:=h2
  rw [hrun] at hroom
  injection hroom with _ hw
  refine ⟨G,cap,w',by rw [hrun,e1],by omega,⟨fun j hj=>?_,fun j hj=>?_⟩,Nat.le_refl _,?_,?_⟩
  ·have:=hU.inArray hc (by omega) h3 j (by omega)
   rw [Nat.zero_add,hcat] at this
   exact this
  ·rw [hU.frozen ⟨G,j,none⟩ hG]
   by_cases hj2:j < n
   ·exact hfr j hj2
   ·have:=(hc.spare (j - n) (by omega)).2
    rwa [show 0 + n * 1 + (j - n) = j by omega] at this
  ·rw [hw,(off_sets G _ _ z).size];omega
  ·rw [hw];exact (off_sets G _ _ z).below (Nat.le_refl _)
 ·have hold:(Builtin.firstCells i0.size n (.slice (some ⟨G,0,none⟩) n cap)).run Tryz.prog z.drew = .ok (byteCells s).toArray z.drew:=by
   have hcz:∀ j u,(byteCells s)[j]? = some u→z.cell? ((⟨G,0,none⟩:Addr).add j) = some u:=fun j u hj=>by
    have:=hc.olds j u hj
    rw [Nat.zero_add] at this
    have e:(⟨G,0,none⟩:Addr).add j = ⟨G,j,none⟩:=by
     unfold Addr.add
     split <;> simp_all
    rw [e,hz]
    exact (World.cell?_of_block (w:=W) (a:=⟨G,j,none⟩) (Below.heap_alloc W _ G hG)).trans this
   have hS2:=Src.ofSlice (P:=Tryz.prog) (size:=1) (tx:=38) (w:=z) Tryz.underlying38 ⟨G,0,none⟩ n cap (byteCells s) hc.oldsLen hcz (fun u hu=>by unfold byteCells at hu;obtain ⟨b,_,rfl⟩:=List.mem_map.1 hu;rfl)
   rw [hs1]
   exact hS2.cellsD
  have hgrow:=run_append_grow_src (P:=Tryz.prog) z 38 38 ty 5 i0 z0 Tryz.underlying38 hi hz0 (some ⟨G,0,none⟩) n cap (byteCells s) hold (.slice (some ⟨H,0,none⟩) 3 3) 3 [.int .u8 1,.int .u8 2,.int .u8 3] (by rw [hs1];exact hS) (by omega) (by omega) (growslice_fits (by omega) (by rw [hb1];omega))
  rw [hrun] at hgrow
  injection hgrow with hv hw
  have hgz:g = z.heap.size:=by
   rw [h2] at hv
   simp at hv
   exact hv.1
  refine ⟨g,c',w',by rw [hrun,h2],ho.le,⟨fun j hj=>?_,fun j hj=>?_⟩,by omega,?_,?_⟩
  ·have:=ho.holds j (by omega)
   rw [hcat] at this
   exact this
  ·exact (ho.there j (by have:=ho.le;omega)).2
  ·rw [hw,hgz];simp
  ·rw [hw];exact ((Below.refl _ _).drew.alloc (by show z.heap.size≤_;exact Nat.le_refl _) _).mono (by omega)
end Go.Proofs.YtnkpbjmfdfjeiaaGreatDoor
