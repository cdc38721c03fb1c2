import Derived.Test.YtgdilnljjgdinaaGreatDoorR5E0All
import Derived.Lib.IndexLaws
import Derived.Test.YtgdilnljjgdinaaGreatDoorR5EAll
import Derived.Test.YtgdilnljjgdinaaGreatDoorR5HPaAll
import Derived.Test.YtgdilnljjgdinaaGreatDoorR5HEaAll
namespace Go.Proofs.YtgdilnljjgdinaaGreatDoor
open Go.RowKit Go.Shelf
theorem byt_some {s:ByteArray} {i:Nat} (h:i<s.size):∃ x,s.data.toList[i]? = some x∧byt s i=(x.toNat:Int):=by
 have hl:i<s.data.toList.length:=by rw [sizeL];exact h
 refine ⟨s.data.toList[i],List.getElem?_eq_getElem hl,?_⟩
 unfold byt
 simp only [List.getD,List.getElem?_eq_getElem hl,Option.getD_some]
theorem some_byt {s:ByteArray} {i:Nat} {x:UInt8} (h:s.data.toList[i]? = some x):i<s.size∧byt s i=(x.toNat:Int):=by
 obtain ⟨hl,e⟩:=List.getElem?_eq_some_iff.1 h
 rw [sizeL] at hl
 obtain ⟨y,h1,h2⟩:=byt_some hl
 rw [h] at h1;cases h1
 exact ⟨hl,h2⟩
theorem in_byt {s:ByteArray} {c:UInt8} (h:c ∈ s.data.toList):∃ i,i<s.size∧byt s i=(c.toNat:Int):=by
 obtain ⟨i,hi,e⟩:=List.getElem_of_mem h
 exact ⟨i,some_byt (by rw [List.getElem?_eq_getElem hi,e])⟩
theorem ib_at {s:ByteArray} {c:UInt8} {k:Nat} (h:k<s.size) (hb:byt s k=(c.toNat:Int)) (hf:∀ i,i<k→byt s i≠(c.toNat:Int)):Lib.indexByte s.data.toList c=(k:Int):=by
 have hk:k<s.data.toList.length:=by rw [sizeL];exact h
 obtain ⟨x,h1,h2⟩:=byt_some h
 obtain rfl:x=c:=UInt8.toNat_inj.1 (by omega)
 have e:s.data.toList=s.data.toList.take k++x::s.data.toList.drop (k+1):=by
  rw [List.getElem?_eq_getElem hk] at h1
  cases h1
  rw [← List.drop_eq_getElem_cons hk,List.take_append_drop]
 have:=ixb_at (l:=s.data.toList.take k) (r:=s.data.toList.drop (k+1)) (c:=x) (fun hm=>by
  obtain ⟨i,hi,e2⟩:=List.getElem_of_mem hm
  rw [List.length_take] at hi
  have h3:s.data.toList[i]? = some x:=by
   rw [List.getElem_take] at e2
   rw [List.getElem?_eq_getElem (by omega),e2]
  exact hf i (by omega) (some_byt h3).2)
 rw [← e,List.length_take,Nat.min_eq_left (Nat.le_of_lt hk)] at this
 exact this
theorem noAny_byt {s:ByteArray} {k:Nat} {c d:UInt8} (hf:∀ i,i<k→i<s.size→byt s i≠(c.toNat:Int)∧byt s i≠(d.toNat:Int)):Lib.NoAny s.data.toList [c,d] k:=fun j b hj hb=>by
 obtain ⟨h1,h2⟩:=some_byt hb
 obtain ⟨n1,n2⟩:=hf j hj h1
 rw [← Bool.not_eq_true,List.contains_iff_mem]
 intro hm
 simp at hm
 rcases hm with rfl|rfl <;> omega
theorem ia_none {s:ByteArray} {c d:UInt8} (hf:∀ i,i<s.size→byt s i≠(c.toNat:Int)∧byt s i≠(d.toNat:Int)):Lib.indexAny s.data.toList [c,d] = -1 :=
 Lib.indexAny_none (noAny_byt fun i _ h=>hf i h)
theorem ia_at {s:ByteArray} {c d:UInt8} {k:Nat} (h:k<s.size) (hb:byt s k=(c.toNat:Int)∨byt s k=(d.toNat:Int)) (hf:∀ i,i<k→byt s i≠(c.toNat:Int)∧byt s i≠(d.toNat:Int)):Lib.indexAny s.data.toList [c,d]=(k:Int):=by
 obtain ⟨x,h1,h2⟩:=byt_some h
 refine Lib.indexAny_hit (noAny_byt fun i hi _=>hf i hi) h1 ?_
 rw [List.contains_iff_mem]
 rcases hb with hb|hb
 ·obtain rfl:x=c:=UInt8.toNat_inj.1 (by omega)
  simp
 ·obtain rfl:x=d:=UInt8.toNat_inj.1 (by omega)
  simp
theorem rdF_shift {s t:ByteArray} {o p:Nat} {k:Nat} (h:∀ i,i<k→byt t (p+i)=byt s (o+i)):rdF t p k=rdF s o k:=by
 induction k with
 | zero=>rfl
 | succ k ih=>simp only [rdF];rw [ih (fun i hi=>h i (by omega)),h k (by omega)]
theorem rdF_at {s t:ByteArray} {o:Nat} {k:Nat} (h:∀ i,i<k→byt t (o+i)=byt s (o+i)):rdF t o k=rdF s o k:=rdF_shift h
def IOk (x:ByteArray):Prop:=Digs (cutS x).2 (cutS x).2.size∧0<(cutS x).2.size
def iv (x:ByteArray):Int:=ws (cutS x).1 (rdF (cutS x).2 0 (cutS x).2.size)
theorem cutT {s x:ByteArray} {p:Nat} {neg:Bool} {n:Nat} (h1:cutS x=(neg,(cutS x).2)) (h2:(cutS x).2.size=n) (h3:∀ i,i<n→byt (cutS x).2 i=byt s (p+i)) :
  (IOk x↔(0<n∧∀ t,p≤t→t<p+n→isDg s t))∧iv x=ws neg (rdF s p n):=by
 have e1:(cutS x).1=neg:=by rw [h1]
 refine ⟨⟨fun ⟨a,b⟩=>⟨by omega,fun t ht1 ht2=>?_⟩,fun ⟨a,b⟩=>⟨fun i hi=>?_,by omega⟩⟩,?_⟩
 ·have:=a (t-p) (by omega)
  rw [h3 (t-p) (by omega),show p+(t-p)=t by omega] at this
  exact this
 ·rw [h3 i (by omega)];exact b (p+i) (by omega) (by omega)
 ·unfold iv
  rw [e1,h2,rdF_congr n h3]
theorem cutW {s:ByteArray} {o j:Nat} (ho:o<j) (hj:j≤s.size):(cutS (s.extract o j)).1=sgN s o∧(cutS (s.extract o j)).2.size=j-sgJ s o∧∀ i,i<j-sgJ s o→byt (cutS (s.extract o j)).2 i=byt s (sgJ s o+i):=by
 have hz:(s.extract o j).size=j-o:=size_extract s o j hj
 have hb:byt (s.extract o j) 0=byt s o:=byt_extract s o j 0 hj (by omega)
 unfold cutS sgN sgJ
 rw [hz,hb]
 by_cases h45:byt s o=45
 ·rw [if_pos ⟨by omega,h45⟩,if_pos ⟨by omega,.inr h45⟩]
  refine ⟨(decide_eq_true ⟨by omega,h45⟩).symm,?_,fun i hi=>?_⟩
  ·show ((s.extract o j).extract 1 (j-o)).size=_
   rw [size_extract _ _ _ (by omega)];omega
  ·show byt ((s.extract o j).extract 1 (j-o)) i=_
   rw [byt_extract _ _ _ _ (by omega) (by omega),byt_extract _ _ _ _ hj (by omega),show o+(1+i)=o+1+i by omega]
 ·by_cases h43:byt s o=43
  ·rw [if_neg (by omega),if_pos ⟨by omega,h43⟩,if_pos ⟨by omega,.inl h43⟩]
   refine ⟨(decide_eq_false (by omega)).symm,?_,fun i hi=>?_⟩
   ·show ((s.extract o j).extract 1 (j-o)).size=_
    rw [size_extract _ _ _ (by omega)];omega
   ·show byt ((s.extract o j).extract 1 (j-o)) i=_
    rw [byt_extract _ _ _ _ (by omega) (by omega),byt_extract _ _ _ _ hj (by omega),show o+(1+i)=o+1+i by omega]
  ·rw [if_neg (by omega),if_neg (by omega),if_neg (by omega)]
   refine ⟨(decide_eq_false (by omega)).symm,hz,fun i hi=>?_⟩
   show byt (s.extract o j) i=_
   rw [byt_extract _ _ _ _ hj (by omega)]
theorem iokW {s:ByteArray} {o j:Nat} (ho:o<j) (hj:j≤s.size):(IOk (s.extract o j)↔(sgJ s o<j∧∀ t,sgJ s o≤t→t<j→isDg s t))∧iv (s.extract o j)=ws (sgN s o) (rdF s (sgJ s o) (j-sgJ s o)):=by
 obtain ⟨h1,h2,h3⟩:=cutW ho hj
 obtain ⟨k1,k2⟩:=cutT (neg:=sgN s o) (by rw [← h1]) h2 h3
 have hle:sgJ s o≤o+1:=by unfold sgJ;split <;> omega
 refine ⟨k1.trans ⟨fun ⟨a,b⟩=>⟨by omega,fun t t1 t2=>b t t1 (by omega)⟩,fun ⟨a,b⟩=>⟨by omega,fun t t1 t2=>b t t1 (by omega)⟩⟩,k2⟩
theorem iokZ {x:ByteArray} (h:x.size=0):¬ IOk x:=fun ⟨_,h2⟩=>by have:=cutS_size x;omega
theorem nokW {s:ByteArray} {o j:Nat} (ho:o≤j) (hj:j≤s.size):((Digs (s.extract o j) (s.extract o j).size∧0<(s.extract o j).size)↔(o<j∧∀ t,o≤t→t<j→isDg s t))∧rdF (s.extract o j) 0 (s.extract o j).size=rdF s o (j-o):=by
 have hz:(s.extract o j).size=j-o:=size_extract s o j hj
 have hb:∀ i,i<j-o→byt (s.extract o j) i=byt s (o+i):=fun i hi=>byt_extract s o j i hj (by omega)
 rw [hz]
 refine ⟨⟨fun ⟨a,b⟩=>⟨by omega,fun t t1 t2=>?_⟩,fun ⟨a,b⟩=>⟨fun i hi=>?_,by omega⟩⟩,rdF_congr _ hb⟩
 ·have:=a (t-o) (by omega)
  rw [hb _ (by omega),show o+(t-o)=t by omega] at this;exact this
 ·rw [hb i hi];exact b _ (by omega) (by omega)
theorem byt_cat (a b:ByteArray) (i:Nat):byt (a++b) i=if i<a.size then byt a i else byt b (i-a.size):=by
 unfold byt
 rw [ByteArray.data_append,Array.toList_append]
 have hl:a.data.toList.length=a.size:=sizeL a
 split
 ·rename_i h
  simp only [List.getD,List.getElem?_append_left (show i<a.data.toList.length by omega)]
 ·rename_i h
  simp only [List.getD,List.getElem?_append_right (show a.data.toList.length≤i by omega),hl]
theorem iokP {s:ByteArray} {q j:Nat} (hq:q<j) (hj:j≤s.size) (h46:byt s q=46) (hns:∀ t,q<t→t<j→byt s t≠43∧byt s t≠45) :
  (IOk (s.extract 0 q++s.extract (q+1) j)↔(0<q-sgJ s 0+(j-(q+1))∧(∀ t,sgJ s 0≤t→t<q→isDg s t)∧∀ t,q<t→t<j→isDg s t)) ∧
  iv (s.extract 0 q++s.extract (q+1) j)=ws (sgN s 0) (rdF s (sgJ s 0) (q-sgJ s 0)*p10 (j-(q+1))+rdF s (q+1) (j-(q+1))):=by
 have hJ:sgJ s 0≤q:=by
  unfold sgJ;split
  ·rename_i h
   rcases Nat.eq_zero_or_pos q with rfl|hp
   ·omega
   ·omega
  ·omega
 have hza:(s.extract 0 q).size=q:=by rw [size_extract _ _ _ (by omega)];omega
 have hzb:(s.extract (q+1) j).size=j-(q+1):=size_extract _ _ _ hj
 have hzx:(s.extract 0 q++s.extract (q+1) j).size=q+(j-(q+1)):=by rw [ByteArray.size_append,hza,hzb]
 have hbx:∀ i,i<q+(j-(q+1))→byt (s.extract 0 q++s.extract (q+1) j) i=if i<q then byt s i else byt s (i+1):=fun i hi=>by
  rw [byt_cat,hza]
  split
  ·rw [byt_extract _ _ _ _ (by omega) (by omega),Nat.zero_add]
  ·rw [byt_extract _ _ _ _ hj (by omega),show q+1+(i-q)=i+1 by omega]
 generalize s.extract 0 q++s.extract (q+1) j=x at *
 -- the sign is ahead of the point
 have key:cutS x=(sgN s 0,(cutS x).2)∧(cutS x).2.size=q-sgJ s 0+(j-(q+1))∧∀ i,i<q-sgJ s 0+(j-(q+1))→byt (cutS x).2 i=byt x (sgJ s 0+i):=by
  rcases Nat.eq_zero_or_pos x.size with h0|h0
  ·have e:cutS x=(false,x):=by unfold cutS;rw [if_neg (by omega),if_neg (by omega)]
   have hq0:q=0:=by omega
   have hj0:sgJ s 0=0:=by omega
   have hn0:sgN s 0=false:=decide_eq_false (by subst hq0;omega)
   rw [e,hn0,hj0]
   exact ⟨rfl,by omega,fun i hi=>by rw [Nat.zero_add]⟩
  ·have hb0:=hbx 0 (by omega)
   by_cases hq0:q=0
   ·subst hq0
    have hj0:sgJ s 0=0:=by omega
    have hn0:sgN s 0=false:=decide_eq_false (by omega)
    rw [if_neg (by omega),Nat.zero_add] at hb0
    have:=hns 1 (by omega) (by omega)
    have e:cutS x=(false,x):=by unfold cutS;rw [if_neg (by omega),if_neg (by omega)]
    rw [e,hn0,hj0]
    exact ⟨rfl,by omega,fun i hi=>by rw [Nat.zero_add]⟩
   ·rw [if_pos (by omega)] at hb0
    by_cases h45:byt s 0=45
    ·have hj0:sgJ s 0=1:=if_pos ⟨by omega,.inr h45⟩
     have hn0:sgN s 0=true:=decide_eq_true ⟨by omega,h45⟩
     have e:cutS x=(true,x.extract 1 x.size):=if_pos ⟨h0,by omega⟩
     rw [e,hn0,hj0]
     refine ⟨rfl,?_,fun i hi=>?_⟩
     ·show (x.extract 1 x.size).size=_
      rw [size_extract _ _ _ (Nat.le_refl _)];omega
     ·show byt (x.extract 1 x.size) i=_
      rw [byt_extract _ _ _ _ (Nat.le_refl _) (by omega)]
    ·by_cases h43:byt s 0=43
     ·have hj0:sgJ s 0=1:=if_pos ⟨by omega,.inl h43⟩
      have hn0:sgN s 0=false:=decide_eq_false (by omega)
      have e:cutS x=(false,x.extract 1 x.size):=by unfold cutS;rw [if_neg (by omega),if_pos ⟨h0,by omega⟩]
      rw [e,hn0,hj0]
      refine ⟨rfl,?_,fun i hi=>?_⟩
      ·show (x.extract 1 x.size).size=_
       rw [size_extract _ _ _ (Nat.le_refl _)];omega
      ·show byt (x.extract 1 x.size) i=_
       rw [byt_extract _ _ _ _ (Nat.le_refl _) (by omega)]
     ·have hj0:sgJ s 0=0:=if_neg (by omega)
      have hn0:sgN s 0=false:=decide_eq_false (by omega)
      have e:cutS x=(false,x):=by unfold cutS;rw [if_neg (by omega),if_neg (by omega)]
      rw [e,hn0,hj0]
      exact ⟨rfl,by omega,fun i hi=>by rw [Nat.zero_add]⟩
 obtain ⟨k1,k2,k3⟩:=key
 obtain ⟨c1,c2⟩:=cutT (s:=x) k1 k2 k3
 refine ⟨c1.trans ⟨fun ⟨a,b⟩=>⟨a,fun t t1 t2=>?_,fun t t1 t2=>?_⟩,fun ⟨a,b,c⟩=>⟨a,fun t t1 t2=>?_⟩⟩,?_⟩
 ·have:=b t t1 (by omega)
  unfold isDg at this ⊢
  rw [hbx t (by omega),if_pos t2] at this;exact this
 ·have:=b (t-1) (by omega) (by omega)
  unfold isDg at this ⊢
  rw [hbx (t-1) (by omega),if_neg (by omega),show t-1+1=t by omega] at this;exact this
 ·unfold isDg
  rw [hbx t (by omega)]
  split
  ·exact b t t1 (by assumption)
  ·exact c (t+1) (by omega) (by omega)
 ·rw [c2,rdF_add]
  have e1:rdF x (sgJ s 0) (q-sgJ s 0)=rdF s (sgJ s 0) (q-sgJ s 0):=rdF_at fun i hi=>by rw [hbx _ (by omega),if_pos (by omega)]
  have e2:rdF x (sgJ s 0+(q-sgJ s 0)) (j-(q+1))=rdF s (q+1) (j-(q+1)):=rdF_shift fun i hi=>by
   rw [hbx _ (by omega),if_neg (by omega)]
   congr 1;omega
  rw [e1,e2]
end Go.Proofs.YtgdilnljjgdinaaGreatDoor
namespace Go.Proofs.YtgdilnljjgdinaaGreatDoor
open Go.RowKit Go.Shelf
structure Shp (s:ByteArray) (p0 i j:Nat):Prop where
 p0e:sgJ s 0=p0
 rn:Run s p0 i
 pt:(j=i∧¬ (i<s.size∧byt s i=46))∨(i<s.size∧byt s i=46∧Run s (i+1) j)
 en:j=s.size∨(j<s.size∧(byt s j=101∨byt s j=69)∧sgJ s (j+1)<s.size∧∀ t,sgJ s (j+1)≤t→t<s.size→isDg s t)
 mn:0<(i-p0)+(j-(i+1))
theorem sg0 {s:ByteArray} {t:Nat} (h:t<sgJ s 0):t=0∧(byt s 0=43∨byt s 0=45):=by
 unfold sgJ at h;split at h
 ·rename_i h2;exact ⟨by omega,h2.2⟩
 ·omega
theorem Shp.ij {s:ByteArray} {p0 i j:Nat} (h:Shp s p0 i j):i≤j∧j≤s.size:=by
 rcases h.pt with ⟨h1,_⟩|⟨_,_,h3⟩
 ·have:=h.rn.sz;omega
 ·have:=h3.le;have:=h3.sz;omega
theorem Shp.front {s:ByteArray} {p0 i j:Nat} (h:Shp s p0 i j) {t:Nat} (ht:t<j):byt s t=43∨byt s t=45∨isDg s t∨(t=i∧byt s t=46):=by
 by_cases h1:t<p0
 ·obtain ⟨rfl,h2⟩:=sg0 (h.p0e ▸ h1)
  rcases h2 with h2|h2
  ·exact .inl h2
  ·exact .inr (.inl h2)
 ·by_cases h2:t<i
  ·exact .inr (.inr (.inl (h.rn.dg t (by omega) h2)))
  ·rcases h.pt with ⟨h3,_⟩|⟨_,h4,h5⟩
   ·omega
   ·by_cases h6:t=i
    ·subst h6;exact .inr (.inr (.inr ⟨rfl,h4⟩))
    ·exact .inr (.inr (.inl (h5.dg t (by omega) ht)))
theorem Shp.no47 {s:ByteArray} {p0 i j:Nat} (h:Shp s p0 i j) {t:Nat} (ht:t<s.size):byt s t≠47:=by
 intro e
 by_cases h1:t<j
 ·have:=h.front h1
  unfold isDg at this
  omega
 ·rcases h.en with h2|⟨_,h2,h3,h4⟩
  ·omega
  ·by_cases h5:t=j
   ·subst h5;omega
   ·by_cases h6:sgJ s (j+1)≤t
    ·have:=h4 t h6 ht;unfold isDg at this;omega
    ·unfold sgJ at h6 h3;split at h6
     ·rename_i h7
      have:t=j+1:=by omega
      subst this;omega
     ·omega
theorem docShp {s:ByteArray} {p0 i k:Nat} (h0:sgJ s 0=p0) (hR:Run s p0 i) (hp:(k=i∧¬ (i<s.size∧byt s i=46))∨(i<s.size∧byt s i=46∧Run s (i+1) k)) (hok:exOk s k=true) (hm:0<(i-p0)+(k-(i+1))):Shp s p0 i k:=by
 refine ⟨h0,hR,hp,?_,hm⟩
 rcases of_decide_eq_true hok with h|⟨h1,h2,h3,h4⟩
 ·exact .inl h
 ·have hr:=run_E s (i:=sgJ s (k+1)) (sgJ_le (by omega))
  exact .inr ⟨h1,h2,by omega,fun t t1 t2=>hr.dg t t1 (by omega)⟩
theorem Shp.ok {s:ByteArray} {p0 i j:Nat} (h:Shp s p0 i j):exOk s j=true:=by
 refine decide_eq_true ?_
 rcases h.en with h1|⟨h1,h2,h3,h4⟩
 ·exact .inl h1
 ·have hr:=run_E s (i:=sgJ s (j+1)) (sgJ_le (by omega))
  have:runE s (sgJ s (j+1))=s.size:=hr.uniq ⟨by omega,Nat.le_refl _,h4,fun h=>absurd h (by omega)⟩
  exact .inr ⟨h1,h2,this,by omega⟩
def exT (s:ByteArray) (j:Nat):Int:=if j<s.size then ws (sgN s (j+1)) (rdF s (sgJ s (j+1)) (s.size-sgJ s (j+1))) else 0
theorem Shp.exN {s:ByteArray} {p0 i j:Nat} (h:Shp s p0 i j):∃ E:Int,0≤E∧exV s j=capV E∧exT s j=ws (exD s j) E:=by
 rcases h.en with h1|⟨h1,h2,h3,h4⟩
 ·refine ⟨0,Int.le_refl _,?_,?_⟩
  ·unfold exV;rw [if_neg (by omega)];rfl
  ·unfold exT exD;rw [if_neg (by omega),decide_eq_false (by omega)];rfl
 ·have hr:=run_E s (i:=sgJ s (j+1)) (sgJ_le (by omega))
  have e:runE s (sgJ s (j+1))=s.size:=hr.uniq ⟨by omega,Nat.le_refl _,h4,fun h=>absurd h (by omega)⟩
  refine ⟨rdF s (sgJ s (j+1)) (s.size-sgJ s (j+1)),(rdF_run_bd h4 _ (by omega)).1,?_,?_⟩
  ·unfold exV;rw [if_pos ⟨h1,h2⟩,e]
  ·unfold exT exD;rw [if_pos h1,decide_eq_true ⟨h1,h2⟩];rfl
def litX (s:ByteArray) (p0 i j:Nat):Int:=ws (sgN s 0) (if i<s.size∧byt s i=46 then rdF s p0 (i-p0)*p10 (j-(i+1))+rdF s (i+1) (j-(i+1)) else rdF s p0 (i-p0))
theorem bext {x y:ByteArray} (h:x.size=y.size) (hb:∀ i,i<x.size→byt x i=byt y i):x=y:=by
 apply ByteArray.ext
 rw [← Array.toList_inj]
 apply List.ext_getElem?
 intro i
 by_cases hi:i<x.size
 ·obtain ⟨u,h1,h2⟩:=byt_some hi
  obtain ⟨v,h3,h4⟩:=byt_some (s:=y) (i:=i) (by omega)
  obtain rfl:u=v:=UInt8.toNat_inj.1 (by have:=hb i hi;omega)
  rw [h1,h3]
 ·rw [List.getElem?_eq_none (by rw [sizeL];omega),List.getElem?_eq_none (by rw [sizeL];omega)]
theorem ext_all (s:ByteArray):s.extract 0 s.size=s:=bext (by rw [size_extract _ _ _ (Nat.le_refl _)];omega) fun i hi=>by
 rw [size_extract _ _ _ (Nat.le_refl _)] at hi
 rw [byt_extract _ _ _ _ (Nat.le_refl _) (by omega),Nat.zero_add]
theorem cutsE_ix {s:ByteArray} {j:Nat} (hs:s.size≤1048576) (hj:j≤s.size) (hf:∀ t,t<j→byt s t≠101∧byt s t≠69) (he:j=s.size∨(j<s.size∧(byt s j=101∨byt s j=69))) :
  CutsE s (s.extract 0 j) (if j<s.size then s.extract (j+1) s.size else ⟨#[48]⟩):=by
 intro w
 rcases he with rfl|⟨h1,h2⟩
 ·rw [if_neg (by omega),ext_all]
  exact cutE_none s (by omega) (ia_none fun i hi=>hf i hi) w
 ·rw [if_pos h1]
  exact cutE_at s j h1 (by omega) (ia_at h1 h2 hf) w
theorem cutsP_ix {s:ByteArray} {q j:Nat} (hs:s.size≤1048576) (hj:j≤s.size) (hq:q≤j) (hf:∀ t,t<q→byt s t≠46) (he:q=j∨(q<j∧byt s q=46)) :
  CutsP (s.extract 0 j) (s.extract 0 q) (if q<j then s.extract (q+1) j else ⟨#[]⟩):=by
 intro w
 have hz:(s.extract 0 j).size=j:=by rw [size_extract _ _ _ hj];omega
 have hb:∀ i,i<j→byt (s.extract 0 j) i=byt s i:=fun i hi=>by rw [byt_extract _ _ _ _ hj (by omega),Nat.zero_add]
 rcases he with rfl|⟨h1,h2⟩
 ·rw [if_neg (by omega)]
  exact cutsP_none _ (fun hm=>by
   obtain ⟨i,h1,h2⟩:=in_byt hm
   rw [hz] at h1
   rw [hb i h1] at h2
   exact hf i h1 h2) w
 ·rw [if_pos h1]
  have e1:(s.extract 0 j).extract 0 q=s.extract 0 q:=bext (by rw [size_extract _ _ _ (by omega),size_extract _ _ _ (by omega)]) fun i hi=>by
   rw [size_extract _ _ _ (by omega)] at hi
   rw [byt_extract _ _ _ _ (by omega) (by omega),byt_extract _ _ _ _ hj (by omega),byt_extract _ _ _ _ (by omega) (by omega),Nat.zero_add]
  have e2:(s.extract 0 j).extract (q+1) j=s.extract (q+1) j:=bext (by rw [size_extract _ _ _ (by omega),size_extract _ _ _ hj]) fun i hi=>by
   rw [size_extract _ _ _ (by omega)] at hi
   rw [byt_extract _ _ _ _ (by omega) (by omega),byt_extract _ _ _ _ hj (by omega),byt_extract _ _ _ _ hj (by omega),Nat.zero_add]
  have:=cutA46 (s.extract 0 j) q w (ib_at (by omega) (by rw [hb q h1];exact h2) fun i hi=>by rw [hb i (by omega)];exact hf i hi) (by omega) (by omega)
  rw [hz,e1,e2] at this
  exact this.mono fun _ _ ⟨a,b⟩=>⟨true,a,b⟩
theorem noSign_ix {s:ByteArray} {q j:Nat} (hs:s.size≤1048576) (hj:j≤s.size) (hn:∀ t,q<t→t<j→byt s t≠43∧byt s t≠45) :
  NoSign (if q<j then s.extract (q+1) j else ⟨#[]⟩):=by
 intro w
 split
 ·have hz:(s.extract (q+1) j).size=j-(q+1):=size_extract _ _ _ hj
  have:=canyB (s.extract (q+1) j) ⟨#[43,45]⟩ w rfl (by omega) ascS
  rw [show Lib.indexAny (s.extract (q+1) j).data.toList (⟨#[43,45]⟩:ByteArray).data.toList = -1 from ia_none fun i hi=>by
   rw [byt_extract _ _ _ _ hj (by omega)];exact hn _ (by omega) (by omega)] at this
  exact this
 ·exact noSign_nil w
end Go.Proofs.YtgdilnljjgdinaaGreatDoor
namespace Go.Proofs.YtgdilnljjgdinaaGreatDoor
open Go.RowKit Go.Shelf
def Fails (s:ByteArray) (g:Nat):Prop:=∀ (w:World) (ev:Value),Errs w g ev→Calls Tryz.prog 101 #[.string s] w fun e w'=>e = .returned (.tuple #[.agg #[.bool false,.slice none 0 0,.slice none 0 0],ev])∧Below w.heap.size w w'
theorem firstOr (n:Nat) (P:Nat→Prop):∃ j,j≤n∧(∀ t,t<j→¬ P t)∧(j=n∨(j<n∧P j)):=by
 induction n with
 | zero=>exact ⟨0,Nat.le_refl _,fun t h=>absurd h (Nat.not_lt_zero _),.inl rfl⟩
 | succ n ih =>
  obtain ⟨j,h1,h2,h3⟩:=ih
  rcases h3 with rfl|⟨h3,h4⟩
  ·by_cases hp:P j
   ·exact ⟨j,by omega,h2,.inr ⟨by omega,hp⟩⟩
   ·refine ⟨j+1,Nat.le_refl _,fun t ht=>?_,.inl rfl⟩
    by_cases e:t=j
    ·subst e;exact hp
    ·exact h2 t (by omega)
  ·exact ⟨j,by omega,h2,.inr ⟨by omega,h4⟩⟩
theorem parsesI_ok {x:ByteArray} (hs:x.size≤1100000) (h:IOk x):ParsesI x (iv x) x.size:=fun w =>
 (parseI x w (by omega) h.1 h.2).mono fun _ _ ⟨v,h1,h2,h3⟩=>⟨v,h1,h2.le (cutS_size x),h3⟩
def ptB (s:ByteArray) (i j:Nat):Nat:=if i<s.size∧byt s i=46 then j-(i+1) else 0
theorem Shp.cut {s:ByteArray} {p0 i j:Nat} (h:Shp s p0 i j) (hs:s.size≤1048576):∃ ah be:ByteArray,CutsE s (s.extract 0 j) (if j<s.size then s.extract (j+1) s.size else ⟨#[48]⟩)∧CutsP (s.extract 0 j) ah be∧NoSign be∧ParsesI (ah++be) (litX s p0 i j) 1048576∧be.size=ptB s i j∧ah.size≤1048576∧be.size≤1048576:=by
 obtain ⟨hij,hj⟩:=h.ij
 have hE:=cutsE_ix hs hj (fun t ht=>by have:=h.front ht;unfold isDg at this;omega) (h.en.imp id fun k=>⟨k.1,k.2.1⟩)
 have h0:=h.p0e
 rcases h.pt with ⟨rfl,hno⟩|⟨h1,h2,h3⟩
 ·have hC:=cutsP_ix (q:=j) hs hj (Nat.le_refl _) (fun t ht e=>by have:=h.front ht;unfold isDg at this;omega) (.inl rfl)
  have hN:=noSign_ix (q:=j) hs hj (fun t t1 t2=>absurd t2 (by omega))
  rw [if_neg (by omega)] at hC hN
  have hle:=h.rn.le
  have hmn:=h.mn
  obtain ⟨k1,k2⟩:=iokW (s:=s) (o:=0) (j:=j) (by omega) hj
  rw [h0] at k1 k2
  have hz:(s.extract 0 j).size=j:=by rw [size_extract _ _ _ hj];omega
  refine ⟨_,_,hE,hC,hN,?_,?_,by omega,by decide⟩
  ·rw [app_nil]
   have:=parsesI_ok (x:=s.extract 0 j) (by omega) (k1.2 ⟨by omega,h.rn.dg⟩)
   rw [k2] at this
   have e:litX s p0 j j=ws (sgN s 0) (rdF s p0 (j-p0)):=by unfold litX;rw [if_neg hno]
   rw [e]
   exact fun w=>(this w).mono fun _ _ ⟨v,a,b,c⟩=>⟨v,a,b.le (by omega),c⟩
  ·unfold ptB;rw [if_neg hno];rfl
 ·have hle:=h3.le
  have hns:∀ t,i<t→t<j→byt s t≠43∧byt s t≠45:=fun t t1 t2=>by have:=h3.dg t (by omega) t2;unfold isDg at this;omega
  have hC:=cutsP_ix (q:=i) hs hj hij (fun t ht e=>by have:=h.front (t:=t) (by omega);unfold isDg at this;omega) (.inr ⟨by omega,h2⟩)
  have hN:=noSign_ix (q:=i) hs hj hns
  rw [if_pos (by omega)] at hC hN
  obtain ⟨k1,k2⟩:=iokP (s:=s) (q:=i) (j:=j) (by omega) hj h2 hns
  rw [h0] at k1 k2
  have hza:(s.extract 0 i).size=i:=by rw [size_extract _ _ _ (by omega)];omega
  have hzb:(s.extract (i+1) j).size=j-(i+1):=size_extract _ _ _ hj
  have hzx:(s.extract 0 i++s.extract (i+1) j).size=i+(j-(i+1)):=by rw [ByteArray.size_append,hza,hzb]
  refine ⟨_,_,hE,hC,hN,?_,?_,by omega,by omega⟩
  ·have:=parsesI_ok (x:=s.extract 0 i++s.extract (i+1) j) (by omega) (k1.2 ⟨h.mn,h.rn.dg,fun t t1 t2=>h3.dg t (by omega) t2⟩)
   rw [k2] at this
   have e:litX s p0 i j=ws (sgN s 0) (rdF s p0 (i-p0)*p10 (j-(i+1))+rdF s (i+1) (j-(i+1))):=by unfold litX;rw [if_pos ⟨h1,h2⟩]
   rw [e]
   exact fun w=>(this w).mono fun _ _ ⟨v,a,b,c⟩=>⟨v,a,b.le (by omega),c⟩
  ·unfold ptB;rw [if_pos ⟨h1,h2⟩];exact hzb
theorem Shp.exI {s:ByteArray} {p0 i j:Nat} (h:Shp s p0 i j) (hs:s.size≤1048576) (hj:j<s.size):ParsesI (s.extract (j+1) s.size) (exT s j) 1048576:=by
 rcases h.en with h1|⟨_,_,h3,h4⟩
 ·omega
 ·have hge:=sgJ_ge s (j+1)
  obtain ⟨k1,k2⟩:=iokW (s:=s) (o:=j+1) (j:=s.size) (by omega) (Nat.le_refl _)
  have hz:(s.extract (j+1) s.size).size=s.size-(j+1):=size_extract _ _ _ (Nat.le_refl _)
  have:=parsesI_ok (x:=s.extract (j+1) s.size) (by omega) (k1.2 ⟨h3,h4⟩)
  rw [k2] at this
  unfold exT
  rw [if_pos hj]
  exact fun w=>(this w).mono fun _ _ ⟨v,a,b,c⟩=>⟨v,a,b.le (by omega),c⟩
theorem no47L {s:ByteArray} (h:∀ t,t<s.size→byt s t≠47):(47:UInt8) ∉ s.data.toList:=fun hm=>by
 obtain ⟨i,h1,h2⟩:=in_byt hm
 exact h i h1 h2
theorem Shp.read {s:ByteArray} {p0 i j:Nat} (h:Shp s p0 i j) (hs:s.size≤1048576) (h8:-9999≤exT s j) (h9:exT s j≤9999) (w:World) (hT:TB w):∃ S,S≤3000000∧Parses s (litV (litX s p0 i j) (exT s j) (ptB s i j)) S w:=by
 obtain ⟨ah,be,c1,c2,c3,c4,c5,c6,c7⟩:=h.cut hs
 have hX:ParsesX (if j<s.size then s.extract (j+1) s.size else ⟨#[48]⟩) (exT s j):=by
  split
  ·rename_i hj
   exact fun w=>parseX _ _ 1048576 w (h.exI hs hj) (by omega) h8 h9
  ·rename_i hj
   have:exT s j=0:=if_neg hj
   rw [this];exact parsesX_zero
 have:=litG w hT (no47L fun t ht=>h.no47 ht) c1 c2 c3 c4 hX h8 h9 (by omega) (by omega) (by omega)
 rw [c5] at this
 exact ⟨_,by omega,this⟩
theorem Shp.far {s:ByteArray} {p0 i j:Nat} (h:Shp s p0 i j) (hs:s.size≤1048576) (h8:exT s j < -9999∨9999<exT s j):Fails s 12:=by
 intro w ev E
 obtain ⟨ah,be,c1,c2,c3,c4,c5,c6,c7⟩:=h.cut hs
 have hj:j<s.size:=by
  rcases Nat.lt_or_ge j s.size with k|k
  ·exact k
  ·have:exT s j=0:=if_neg (by omega)
   omega
 rw [if_pos hj] at c1
 have hX:∀ w,Errs w 12 ev→Calls Tryz.prog 133 #[.string (s.extract (j+1) s.size)] w fun e w'=>e = .returned (.tuple #[.int .i64 0,ev])∧Below w.heap.size w w':=fun w E=>by
  rcases h8 with h8|h8
  ·exact parseXM _ _ 1048576 w E (h.exI hs hj) (by omega) h8
  ·exact parseXE _ _ 1048576 w E (h.exI hs hj) (by omega) h8
 exact parseDF w (no47L fun t ht=>h.no47 ht) E fun w E=>decX3 w c1 c2 c3 c4 E hX (by omega) (by omega)
end Go.Proofs.YtgdilnljjgdinaaGreatDoor
namespace Go.Proofs.YtgdilnljjgdinaaGreatDoor
open Go.RowKit Go.Shelf
theorem parseN_no {x:ByteArray} (hs:x.size≤1100000) (h:¬ IOk x) (w:World) (ev:Value) (E:Errs w 11 ev):Calls Tryz.prog 128 #[.string x] w fun e w'=>e = .returned (.tuple #[.agg #[.bool false,.slice none 0 0],ev])∧Below w.heap.size w w':=parseN x w ev (by omega) h E
theorem prNum {s:ByteArray} {p0 i:Nat} (hs:s.size≤1048576) (h0:sgJ s 0=p0) (hR:Run s p0 i) (hA:¬ (p0<i∧i<s.size∧byt s i=47)) (hN:∀ j,¬ Shp s p0 i j):Fails s 11:=by
 intro w ev E
 obtain ⟨k,k1,k2,k3⟩:=firstOr s.size (fun t=>byt s t=47)
 rcases k3 with rfl|⟨k3,k4⟩
 ·-- no stroke
  have hno:(47:UInt8) ∉ s.data.toList:=no47L k2
  clear k1 k2 hA
  obtain ⟨j,j1,j2,j3⟩:=firstOr s.size (fun t=>byt s t=101∨byt s t=69)
  obtain ⟨q,q1,q2,q3⟩:=firstOr j (fun t=>byt s t=46)
  have hE:=cutsE_ix hs j1 (fun t ht=>⟨fun e=>j2 t ht (.inl e),fun e=>j2 t ht (.inr e)⟩) j3
  have hC:=cutsP_ix hs j1 q1 q2 q3
  have hza:(s.extract 0 q).size=q:=by rw [size_extract _ _ _ (by omega)];omega
  have hzb:(if q<j then s.extract (q+1) j else ⟨#[]⟩:ByteArray).size≤1048576:=by
   split
   ·rw [size_extract _ _ _ j1];omega
   ·decide
  by_cases c1:∃ t,q<t∧t<j∧(byt s t=43∨byt s t=45)
  ·obtain ⟨t,t1,t2,t3⟩:=c1
   rw [if_pos (by omega)] at hC
   refine parseDF w hno E fun w E=>decN1 w E hE hC fun w=>?_
   have hz:(s.extract (q+1) j).size=j-(q+1):=size_extract _ _ _ j1
   have hb:∀ i,i<j-(q+1)→byt (s.extract (q+1) j) i=byt s (q+1+i):=fun i hi=>byt_extract _ _ _ _ j1 (by omega)
   obtain ⟨m,m1,m2,m3⟩:=firstOr (j-(q+1)) (fun t=>byt s (q+1+t)=43∨byt s (q+1+t)=45)
   have hm:m<j-(q+1)∧(byt s (q+1+m)=43∨byt s (q+1+m)=45):=by
    rcases m3 with rfl|m3
    ·exact absurd (by rw [show q+1+(t-(q+1))=t by omega];exact t3) (m2 (t-(q+1)) (by omega))
    ·exact m3
   have:=canyB (s.extract (q+1) j) ⟨#[43,45]⟩ w rfl (by omega) ascS
   rw [show Lib.indexAny (s.extract (q+1) j).data.toList (⟨#[43,45]⟩:ByteArray).data.toList=(m:Int) from ia_at (by omega) (by rw [hb m hm.1];exact hm.2) fun i hi=>by
    rw [hb i (by omega)];exact ⟨fun e=>m2 i hi (.inl e),fun e=>m2 i hi (.inr e)⟩,show decide ((0:Int)≤(m:Int))=true from decide_eq_true (by omega)] at this
   exact this
  ·have hns:∀ t,q<t→t<j→byt s t≠43∧byt s t≠45:=fun t t1 t2=>⟨fun e=>c1 ⟨t,t1,t2,.inl e⟩,fun e=>c1 ⟨t,t1,t2,.inr e⟩⟩
   have hS:=noSign_ix hs j1 hns
   by_cases c2:IOk (s.extract 0 q++(if q<j then s.extract (q+1) j else ⟨#[]⟩))
   ·-- the digits are fine: the exponent isn't
    have hP:=parsesI_ok (by
     rw [ByteArray.size_append,hza];have:q≤1048576:=by omega
     split
     ·rw [size_extract _ _ _ j1];omega
     ·show q+0≤_;omega) c2
    have hsh:(j=s.size∨(j<s.size∧(byt s j=101∨byt s j=69)∧sgJ s (j+1)<s.size∧∀ t,sgJ s (j+1)≤t→t<s.size→isDg s t))→False:=by
     intro hen
     have hstop:j<s.size→¬ isDg s j∧byt s j≠46:=fun hl=>by
      rcases j3 with j3|⟨_,j3⟩
      ·omega
      ·unfold isDg;omega
     rcases q3 with rfl|⟨q3,q4⟩
     ·rw [if_neg (by omega),app_nil] at c2
      rcases Nat.eq_zero_or_pos q with rfl|hp
      ·exact iokZ (by rw [hza]) c2
      ·obtain ⟨d1,d2⟩:=(iokW hp j1).1.1 c2
       rw [h0] at d1 d2
       obtain rfl:i=q:=hR.uniq ⟨by omega,j1,d2,fun hl=>(hstop hl).1⟩
       exact hN i ⟨h0,hR,.inl ⟨rfl,fun h=>(hstop h.1).2 h.2⟩,hen,by omega⟩
     ·rw [if_pos q3] at c2
      obtain ⟨d1,d2,d3⟩:=(iokP q3 j1 q4 hns).1.1 c2
      rw [h0] at d1 d2
      have hp0:p0≤q:=by
       rw [← h0];unfold sgJ;split
       ·rename_i h
        rcases Nat.eq_zero_or_pos q with rfl|hp
        ·omega
        ·omega
       ·omega
      obtain rfl:i=q:=hR.uniq ⟨hp0,by omega,d2,fun _ hd=>by unfold isDg at hd;omega⟩
      exact hN j ⟨h0,hR,.inr ⟨by omega,q4,⟨by omega,j1,fun t t1 t2=>d3 t (by omega) t2,fun hl=>(hstop hl).1⟩⟩,hen,d1⟩
    rcases j3 with j3|⟨j3,j4⟩
    ·exact (hsh (.inl j3)).elim
    ·rw [if_pos j3] at hE
     have hz:(s.extract (j+1) s.size).size=s.size-(j+1):=size_extract _ _ _ (Nat.le_refl _)
     have hx:¬ IOk (s.extract (j+1) s.size):=fun hx=>by
      rcases Nat.lt_or_ge (j+1) s.size with hl|hl
      ·obtain ⟨e1,e2⟩:=(iokW hl (Nat.le_refl _)).1.1 hx
       exact hsh (.inr ⟨j3,j4,e1,e2⟩)
      ·exact iokZ (by omega) hx
     exact parseDF w hno E fun w E=>decX3 w hE hC hS hP E (fun w E=>parseXN _ w E (by omega) hx) (by omega) (by omega)
   ·have hzx:(s.extract 0 q++(if q<j then s.extract (q+1) j else ⟨#[]⟩:ByteArray)).size≤1100000:=by
     rw [ByteArray.size_append,hza]
     split
     ·rw [size_extract _ _ _ j1];omega
     ·show q+0≤_;omega
    exact parseDF w hno E fun w E=>decN2 w E hE hC hS (fun w E=>parseN_no hzx c2 w ev E) (by omega) (by omega)
 ·-- a stroke
  have hza:(s.extract 0 k).size=k:=by rw [size_extract _ _ _ (by omega)];omega
  refine parseSF w (ib_at k3 k4 k2) k3 (by omega) E fun w E=>quoN1 w E (by omega) fun hI=>?_
  rcases Nat.eq_zero_or_pos k with rfl|hp
  ·exact iokZ hza hI
  ·obtain ⟨d1,d2⟩:=(iokW hp k1).1.1 hI
   rw [h0] at d1 d2
   obtain rfl:i=k:=hR.uniq ⟨by omega,k1,d2,fun _ hd=>by unfold isDg at hd;omega⟩
   exact hA ⟨d1,k3,k4⟩
end Go.Proofs.YtgdilnljjgdinaaGreatDoor
namespace Go.Proofs.YtgdilnljjgdinaaGreatDoor
open Go.RowKit Go.Shelf
def DocErr (s:ByteArray) (code:Int):Prop:=∀ w,Calls Tryz.prog 34 #[.string s] w fun e w'=>e = .returned (.tuple #[.agg #[.bool false,.slice none 0 0,.slice none 0 0],.int .i64 code])∧Below w.heap.size w w'
def DocOk (s:ByteArray) (r:Rat) (S:Nat):Prop:=∀ w,Calls Tryz.prog 34 #[.string s] w fun e w'=>∃ f c n k c' n' k',e = .returned (.tuple #[.agg #[.bool f,.slice c n k,.slice c' n' k'],.int .i64 0])∧GR w' w.heap.size f c n k c' n' k' r S∧Below w.heap.size w w'
theorem p10_add (a b:Nat):p10 (a+b)=p10 a*p10 b:=by
 induction b with
 | zero=>simp [p10]
 | succ b ih=>show p10 (a+b)*10=p10 a*(p10 b*10);rw [ih,Int.mul_assoc]
theorem ws_mulL (neg:Bool) (x y:Int):ws neg (x*y)=ws neg x*y:=by
 cases neg
 ·rfl
 ·show -(x*y) = -x*y;rw [Int.neg_mul]
theorem litV_u (x:Int) (en b:Nat):litV x (en:Int) b=Rat.divInt (x*p10 en) (p10 b):=by
 unfold litV
 rcases Nat.lt_or_ge en b with h|h
 ·rw [show ((en:Int)-(b:Int)).toNat=0 by omega,show ((b:Int)-(en:Int)).toNat=b-en by omega,show p10 0=1 by rfl,Int.mul_one,Rat.divInt_eq_divInt_iff (p10_ne _) (p10_ne _)]
  rw [Int.mul_assoc,← p10_add,show en+(b-en)=b by omega]
 ·rw [show ((en:Int)-(b:Int)).toNat=en-b by omega,show ((b:Int)-(en:Int)).toNat=0 by omega,show p10 0=1 by rfl,Rat.divInt_eq_divInt_iff (by decide) (p10_ne _)]
  rw [Int.mul_one,Int.mul_assoc,← p10_add,show en-b+b=en by omega]
theorem litV_d (x:Int) (en b:Nat):litV x (-(en:Int)) b=Rat.divInt x (p10 b*p10 en):=by
 unfold litV
 rw [show (-(en:Int)-(b:Int)).toNat=0 by omega,show ((b:Int) - -(en:Int)).toNat=b+en by omega,show p10 0=1 by rfl,Int.mul_one,p10_add]
theorem numBd {s:ByteArray} {p0 i b:Nat} {N D:Int} (hn:N<p10 (i-p0)) (hd0:D<p10 b) (hs:i-p0+b≤1048576) {M1:Nat} (hM1:M1=1048577) (_:s.size≤1048576):N*p10 b+D<pw M1:=by
 have h1:=p10_pos b
 have h2:(N+1)*p10 b≤p10 (i-p0)*p10 b:=Int.mul_le_mul_of_nonneg_right (by omega) (by omega)
 rw [← p10_add,Int.add_mul,Int.one_mul] at h2
 have h3:=p10_lt (i-p0+b)
 have h4:=pw_mono (a:=i-p0+b+1) (b:=M1) (by omega)
 omega
theorem both2 (s:ByteArray) (hs:s.size≤1048576) :
  (∃ r S R,S≤3000000∧R≤5000000∧(∀ w,TB w→Parses s r S w)∧DocOk s r R∧0<s.size)∨(Fails s 11∧DocErr s 5)∨(Fails s 12∧DocErr s 8)∨(Fails s 0∧DocErr s 3):=by
 obtain ⟨p0,h0⟩:∃ p0,sgJ s 0=p0:=⟨_,rfl⟩
 obtain ⟨neg,hneg⟩:∃ neg,sgN s 0=neg:=⟨_,rfl⟩
 have hp:p0≤s.size:=by rw [← h0];exact sgJ_le (Nat.zero_le _)
 obtain ⟨i,hi⟩:∃ i,runE s p0=i:=⟨_,rfl⟩
 have hR:Run s p0 i:=hi ▸ run_E s hp
 obtain ⟨N,hN⟩:∃ N,rdF s p0 (i-p0)=N:=⟨_,rfl⟩
 have hNb:=rdF_run_bd hR.dg (i-p0) (by have:=hR.le;omega)
 rw [hN] at hNb
 have hil:=hR.sz
 have hpi:=hR.le
 by_cases hA:p0<i∧i<s.size∧byt s i=47
 ·obtain ⟨a1,a2,a3⟩:=hA
  obtain ⟨k,hk⟩:∃ k,runE s (i+1)=k:=⟨_,rfl⟩
  have hK:Run s (i+1) k:=hk ▸ run_E s (by omega)
  obtain ⟨D,hD⟩:∃ D,rdF s (i+1) (k-(i+1))=D:=⟨_,rfl⟩
  have hf:Lib.indexByte s.data.toList 47=(i:Int):=ib_at a2 a3 fun t ht e=>by
   by_cases h1:t<p0
   ·obtain ⟨rfl,h2⟩:=sg0 (h0 ▸ h1)
    have e':byt s 0=47:=e
    omega
   ·have:=hR.dg t (by omega) ht
    have e':byt s t=47:=e
    unfold isDg at this;omega
  obtain ⟨u1,u2⟩:=iokW (s:=s) (o:=0) (j:=i) (by omega) hil
  rw [h0] at u1 u2
  rw [hN,hneg] at u2
  have hIa:IOk (s.extract 0 i):=u1.2 ⟨a1,hR.dg⟩
  obtain ⟨v1,v2⟩:=nokW (s:=s) (o:=i+1) (j:=s.size) (by omega) (Nat.le_refl _)
  have hza:(s.extract 0 i).size=i:=by rw [size_extract _ _ _ (by omega)];omega
  have hzb:(s.extract (i+1) s.size).size=s.size-(i+1):=size_extract _ _ _ (Nat.le_refl _)
  by_cases h5:k=i+1∨k<s.size
  ·refine .inr (.inl ⟨fun w ev E=>parseSF w hf a2 (by omega) E fun w E=>quoN2 w E (by omega) (by omega) hIa.1 hIa.2 fun hn=>?_,fun w=>?_⟩)
   ·obtain ⟨n1,n2⟩:=v1.1 hn
    have:k=s.size:=hK.uniq ⟨by omega,Nat.le_refl _,n2,fun h=>absurd h (by omega)⟩
    omega
   ·by_cases h6:k=i+1
    ·exact dA5a w hs h0 hneg hi hN hp hil hpi a1 a2 a3 hk hD h6
    ·exact dA5b w hs h0 hneg hi hN hp hil hpi a1 a2 a3 hk hD h6 (by omega)
  ·have hks:k=s.size:=by have:=hK.sz;omega
   have hNb2:=v1.2 ⟨by have:=hK.le;omega,fun t t1 t2=>hK.dg t t1 (by omega)⟩
   have v3:rdF (s.extract (i+1) s.size) 0 (s.extract (i+1) s.size).size=D:=by rw [v2,← hD,hks]
   by_cases hD0:D=0
   ·refine .inr (.inr (.inr ⟨fun w ev E=>parseSF w hf a2 (by omega) E fun w E=>quoE (S:=1048576) w (by omega) (by omega) hIa.1 hIa.2 hNb2.1 hNb2.2 (by rw [v3];exact hD0) (by omega) (by omega) (by omega) E,fun w=>?_⟩))
    exact dA3 w hs h0 hneg hi hN hp hil hpi a1 a2 a3 hk hD (by omega) (by omega) hD0
   ·refine .inl ⟨Rat.divInt (ws neg N) D,1048576,1048577,by omega,by omega,fun w hT=>parseS w hf a2 (by omega) (fun w hT=>?_) hT,fun w=>?_,by omega⟩
    ·have:=quoOk (S:=1048576) w (by omega) (by omega) hIa.1 hIa.2 hNb2.1 hNb2.2 (by rw [v3];exact hD0) (by omega) (by omega) (by omega) hT
     rw [v3,show ws (cutS (s.extract 0 i)).1 (rdF (cutS (s.extract 0 i)).2 0 (cutS (s.extract 0 i)).2.size)=ws neg N from u2] at this
     exact this
    ·exact dA0 w hs h0 hneg hi hN hp hil hpi a1 a2 a3 hk hD (by omega) (by omega) hD0
 ·by_cases hS:∃ j,Shp s p0 i j
  ·obtain ⟨j,h⟩:=hS
   have hok:=h.ok
   obtain ⟨E,e0,e1,e2⟩:=h.exN
   obtain ⟨dn,hdn⟩:∃ dn,exD s j=dn:=⟨_,rfl⟩
   rw [hdn] at e2
   by_cases hE:E≤9999
   ·have e3:exV s j=E:=by rw [e1];exact if_neg (by omega)
    obtain ⟨en,rfl⟩:∃ en:Nat,E=en:=⟨E.toNat,by omega⟩
    have hrng:-9999≤exT s j∧exT s j≤9999:=by rw [e2];cases dn <;> simp [ws] <;> omega
    have hpr:∀ w,TB w→Parses s (litV (litX s p0 i j) (exT s j) (ptB s i j)) 3000000 w:=fun w hT=>by
     obtain ⟨S,s1,s2⟩:=h.read hs hrng.1 hrng.2 w hT
     exact s2.mono fun _ _ ⟨f,c,n,k,c',n',k',g1,g2,g3⟩=>⟨f,c,n,k,c',n',k',g1,g2.le s1,g3⟩
    refine .inl ⟨_,3000000,4194309,by omega,by omega,hpr,fun w=>?_,by have:=h.mn;have:=h.ij;omega⟩
    have hX:litX s p0 i j=ws neg (if i<s.size∧byt s i=46 then N*p10 (j-(i+1))+rdF s (i+1) (j-(i+1)) else N):=by unfold litX;rw [hneg,hN]
    rcases h.pt with ⟨rfl,hno⟩|⟨b1,b2,b3⟩
    ·have hmn:=h.mn
     rw [if_neg hno] at hX
     have hpt:ptB s j j=0:=if_neg hno
     have hmm:(j:Int)-(p0:Int)=((j-p0:Nat):Int):=by omega
     rw [hX,hpt,e2]
     by_cases hl:j<s.size
     ·have g6:byt s j≠46:=fun e=>hno ⟨hl,e⟩
      have g7:=h.no47 hl
      cases dn
      ·have:=dBLa0u w hs h0 hneg hi hN hp hil hpi (by omega) hl g6 g7 hmm e3 hdn hok (by omega) rfl rfl (by omega) rfl
       rw [show ws false (en:Int)=(en:Int) from rfl,litV_u,← ws_mulL];exact this
      ·have:=dBLa0d w hs h0 hneg hi hN hp hil hpi (by omega) hl g6 g7 hmm e3 hdn hok (by omega) rfl rfl (by omega) rfl
       rw [show ws true (en:Int) = -(en:Int) from rfl,litV_d];exact this
     ·cases dn
      ·have:=dBEa0u w hs h0 hneg hi hN hp hil hpi (by omega) hl hmm e3 hdn hok (by omega) rfl rfl (by omega) rfl
       rw [show ws false (en:Int)=(en:Int) from rfl,litV_u,← ws_mulL];exact this
      ·have:=dBEa0d w hs h0 hneg hi hN hp hil hpi (by omega) hl hmm e3 hdn hok (by omega) rfl rfl (by omega) rfl
       rw [show ws true (en:Int) = -(en:Int) from rfl,litV_d];exact this
    ·have hmn:=h.mn
     have hle:=b3.le
     have hjs:=b3.sz
     rw [if_pos ⟨b1,b2⟩] at hX
     have hpt:ptB s i j=j-(i+1):=if_pos ⟨b1,b2⟩
     obtain ⟨D,hD⟩:∃ D,rdF s (i+1) (j-(i+1))=D:=⟨_,rfl⟩
     have hDb:=rdF_run_bd b3.dg (j-(i+1)) (by omega)
     rw [hD] at hDb hX
     have hk:runE s (i+1)=j:=(run_E s (by omega)).uniq b3
     obtain ⟨M1,hM1⟩:∃ M1:Nat,M1=1048577:=⟨_,rfl⟩
     have hMb:Hid (N*p10 (j-(i+1))+D<pw M1):=numBd (s:=s) hNb.2 hDb.2 (by omega) hM1 hs
     obtain ⟨M,hM⟩:∃ M,Hid (N*p10 (j-(i+1))+D=M):=⟨_,rfl⟩
     rw [hM.out] at hX hMb
     have hmm:(i:Int)-(p0:Int)+((j-(i+1):Nat):Int)=((i-p0+(j-(i+1)):Nat):Int):=by omega
     rw [hX,hpt,e2]
     by_cases ha:p0<i
     ·cases dn
      ·have:=dBPa0u w hs h0 hneg hi hN hp hil hpi ha b1 b2 hk (by omega) hjs hD hM hM1 hMb hmm e3 hdn hok (by omega) rfl rfl (by omega) rfl
       rw [show ws false (en:Int)=(en:Int) from rfl,litV_u,← ws_mulL];exact this
      ·have:=dBPa0d w hs h0 hneg hi hN hp hil hpi ha b1 b2 hk (by omega) hjs hD hM hM1 hMb hmm e3 hdn hok (by omega) rfl rfl (by omega) rfl
       rw [show ws true (en:Int) = -(en:Int) from rfl,litV_d];exact this
     ·cases dn
      ·have:=dBPn0u w hs h0 hneg hi hN hp hil hpi ha b1 b2 hk (by omega) hjs hD hM hM1 hMb hmm e3 hdn hok (by omega) rfl rfl (by omega) rfl
       rw [show ws false (en:Int)=(en:Int) from rfl,litV_u,← ws_mulL];exact this
      ·have:=dBPn0d w hs h0 hneg hi hN hp hil hpi ha b1 b2 hk (by omega) hjs hD hM hM1 hMb hmm e3 hdn hok (by omega) rfl rfl (by omega) rfl
       rw [show ws true (en:Int) = -(en:Int) from rfl,litV_d];exact this
   ·have e3:9999<exV s j:=by rw [e1];unfold capV;split <;> omega
    have hout:exT s j < -9999∨9999<exT s j:=by rw [e2];cases dn <;> simp [ws] <;> omega
    refine .inr (.inr (.inl ⟨h.far hs hout,fun w=>?_⟩))
    rcases h.pt with ⟨rfl,hno⟩|⟨b1,b2,b3⟩
    ·have hmn:=h.mn
     have hmm:(j:Int)-(p0:Int)=((j-p0:Nat):Int):=by omega
     by_cases hl:j<s.size
     ·exact dBLa8 w hs h0 hneg hi hN hp hil hpi (by omega) hl (fun e=>hno ⟨hl,e⟩) (h.no47 hl) hmm rfl hdn hok (by omega) rfl e3
     ·exact dBEa8 w hs h0 hneg hi hN hp hil hpi (by omega) hl hmm rfl hdn hok (by omega) rfl e3
    ·have hmn:=h.mn
     have hle:=b3.le
     have hjs:=b3.sz
     obtain ⟨D,hD⟩:∃ D,rdF s (i+1) (j-(i+1))=D:=⟨_,rfl⟩
     have hDb:=rdF_run_bd b3.dg (j-(i+1)) (by omega)
     rw [hD] at hDb
     have hk:runE s (i+1)=j:=(run_E s (by omega)).uniq b3
     obtain ⟨M1,hM1⟩:∃ M1:Nat,M1=1048577:=⟨_,rfl⟩
     have hMb:Hid (N*p10 (j-(i+1))+D<pw M1):=numBd (s:=s) hNb.2 hDb.2 (by omega) hM1 hs
     have hmm:(i:Int)-(p0:Int)+((j-(i+1):Nat):Int)=((i-p0+(j-(i+1)):Nat):Int):=by omega
     by_cases ha:p0<i
     ·exact dBPa8 w hs h0 hneg hi hN hp hil hpi ha b1 b2 hk (by omega) hjs hD rfl hM1 hMb hmm rfl hdn hok (by omega) rfl e3
     ·exact dBPn8 w hs h0 hneg hi hN hp hil hpi ha b1 b2 hk (by omega) hjs hD rfl hM1 hMb hmm rfl hdn hok (by omega) rfl e3
  ·have hS':∀ j,¬ Shp s p0 i j:=fun j h=>hS ⟨j,h⟩
   refine .inr (.inl ⟨prNum hs h0 hR hA hS',fun w=>?_⟩)
   by_cases hP:i<s.size∧byt s i=46
   ·obtain ⟨b1,b2⟩:=hP
    obtain ⟨k,hk⟩:∃ k,runE s (i+1)=k:=⟨_,rfl⟩
    have hK:Run s (i+1) k:=hk ▸ run_E s (by omega)
    have hle:=hK.le
    have hks:=hK.sz
    obtain ⟨D,hD⟩:∃ D,rdF s (i+1) (k-(i+1))=D:=⟨_,rfl⟩
    have hDb:=rdF_run_bd hK.dg (k-(i+1)) (by omega)
    rw [hD] at hDb
    obtain ⟨M1,hM1⟩:∃ M1:Nat,M1=1048577:=⟨_,rfl⟩
    have hMb:Hid (N*p10 (k-(i+1))+D<pw M1):=numBd (s:=s) hNb.2 hDb.2 (by omega) hM1 hs
    have hmm:(i:Int)-(p0:Int)+((k-(i+1):Nat):Int)=((i-p0+(k-(i+1)):Nat):Int):=by omega
    by_cases hm:i-p0+(k-(i+1))=0
    ·exact dBPn5a w hs h0 hneg hi hN hp hil hpi (by omega) b1 b2 hk (by omega) hks hD rfl hM1 hMb hmm rfl rfl rfl hm
    ·have ho:exOk s k=false:=by
      rw [← Bool.not_eq_true];intro ho
      exact hS' k (docShp h0 hR (.inr ⟨b1,b2,hK⟩) ho (by omega))
     by_cases ha:p0<i
     ·exact dBPa5b w hs h0 hneg hi hN hp hil hpi ha b1 b2 hk (by omega) hks hD rfl hM1 hMb hmm rfl rfl ho hm rfl
     ·exact dBPn5b w hs h0 hneg hi hN hp hil hpi ha b1 b2 hk (by omega) hks hD rfl hM1 hMb hmm rfl rfl ho hm rfl
   ·have hmm:(i:Int)-(p0:Int)=((i-p0:Nat):Int):=by omega
    by_cases ha:p0<i
    ·have ho:exOk s i=false:=by
      rw [← Bool.not_eq_true];intro ho
      exact hS' i (docShp h0 hR (.inl ⟨rfl,hP⟩) ho (by omega))
     by_cases hl:i<s.size
     ·exact dBLa5b w hs h0 hneg hi hN hp hil hpi ha hl (fun e=>hP ⟨hl,e⟩) (fun e=>hA ⟨ha,hl,e⟩) hmm rfl rfl ho (by omega) rfl
     ·exact dBEa5b w hs h0 hneg hi hN hp hil hpi ha hl hmm rfl rfl ho (by omega) rfl
    ·by_cases hl:i<s.size
     ·exact dBLn5a w hs h0 hneg hi hN hp hil hpi ha hl (fun e=>hP ⟨hl,e⟩) hmm rfl rfl rfl (by omega)
     ·exact dBEn5a w hs h0 hneg hi hN hp hil hpi ha hl hmm rfl rfl rfl (by omega)
end Go.Proofs.YtgdilnljjgdinaaGreatDoor
