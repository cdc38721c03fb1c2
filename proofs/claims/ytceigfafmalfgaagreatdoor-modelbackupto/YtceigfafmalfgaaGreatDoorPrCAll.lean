import Derived.Test.YtceigfafmalfgaaGreatDoorPqCAll
import Derived.Test.YtceigfafmalfgaaGreatDoorGsAAll
import Derived.Maps.OwnSet
import Derived.Test.YtceigfafmalfgaaGreatDoorLaysK
namespace Go.Proofs.YtceigfafmalfgaaGreatDoor
open Go.RowKit Go.Maps
def rawR (v:Value):Option (DataW Value × List MemPlace):=some (.held v,[])
def pn (t:Nat→PT) (Z:Nat→Nat) (n:Nat) (x:Int) (k:Nat):List (Rat × Nat):=if 0≤x∧x<(n:Int) then ps t Z x k else []
theorem pn_in {t:Nat→PT} {Z:Nat→Nat} {n:Nat} {x:Int} {k:Nat} (h:0≤x∧x<(n:Int)):pn t Z n x k=ps t Z x k:=if_pos h
theorem pn_same {t:Nat→PT} {Z:Nat→Nat} {n:Nat} {k:Nat} (h:0≤(t k).var∧(t k).var<(n:Int)):pn t Z n (t k).var (k+1)=pn t Z n (t k).var k++[((t k).coef,Z k)]:=by
 rw [pn_in h,pn_in h]
 show (if (t k).var=(t k).var then _ else _)=_
 rw [if_pos rfl]
theorem pn_other {t:Nat→PT} {Z:Nat→Nat} {n:Nat} {x:Int} {k:Nat} (h:(t k).var≠x):pn t Z n x (k+1)=pn t Z n x k:=by
 unfold pn
 split
 ·show (if (t k).var=x then _ else _)=_
  rw [if_neg h]
 ·rfl
theorem pn_out {t:Nat→PT} {Z:Nat→Nat} {n:Nat} {k:Nat} (h:¬ (0≤(t k).var∧(t k).var<(n:Int))) (x:Int):pn t Z n x (k+1)=pn t Z n x k:=by
 by_cases e:(t k).var=x
 ·subst e
  unfold pn
  rw [if_neg h,if_neg h]
 ·exact pn_other e
theorem pn_len (t:Nat→PT) (Z:Nat→Nat) (n:Nat) (x:Int) (k:Nat):(pn t Z n x k).length≤k:=by
 unfold pn
 split
 ·exact ps_len t Z x k
 ·exact Nat.zero_le _
theorem ML.grow {w w':World} {B:Nat} {v:Value} {n:Nat} {X:Nat→Rat} {S:Nat} (h:ML w B v n X S) (hB:B≤w.heap.size) {lv:Value} {m:Nat} {Y:Nat→Rat} {R:Nat} (k:ML w B lv m Y R) (hne:∀ g,v.ownBlock=some g→lv.ownBlock≠some g) (hg:w.grownBy w' lv.ownBlock):ML w' B v n X S:=by
 obtain ⟨vs,h1,h2⟩:=h
 obtain ⟨us,k1,k2⟩:=k
 refine ⟨vs,World.ownsRow.kept h1 hg (row_or hne),fun i hi=>?_⟩
 obtain ⟨p,a,na,ca,d,nd,cd,g1,g2,g3,g4⟩:=h2 i hi
 exact ⟨p,a,na,ca,d,nd,cd,g1,g2,g3,g4.grow hB k1 hg⟩
theorem row_map {w:World} {B:Nat} {T:TypeId} {c:Nat} {v:Value} {n:Nat} {xs:List Value} (h:w.ownsRow B T c v n xs) {b:Nat} (hm:∃ es k,w.heap[b]? = some (.map es k)):v.ownBlock=none∨v.ownBlock≠some b:=by
 rcases h.2 with ⟨e1,_⟩|⟨g1,c1,cur1,e1,_,f1,_⟩
 ·subst e1;exact .inl rfl
 ·refine .inr fun e=>?_
  subst e1
  simp [Value.ownBlock] at e
  subst e
  obtain ⟨es,k,hm⟩:=hm
  rw [f1] at hm
  cases hm
theorem Got.mapped {w w':World} {B:Nat} {v:Value} {x:Int} {S:Nat} (h:Got w B v x S) {b:Nat} (hm:∃ es k,w.heap[b]? = some (.map es k)) (hg:w.grownBy w' (some b)):Got w' B v x S:=by
 obtain ⟨xs,h1,h2⟩:=h
 exact ⟨xs,World.ownsRow.kept h1 hg (row_map h1 hm),h2⟩
theorem GR.mapped {w w':World} {B:Nat} {f:Bool} {c:Option Addr} {n k:Nat} {c':Option Addr} {n' k':Nat} {r:Rat} {S:Nat} (h:GR w B f c n k c' n' k' r S) {b:Nat} (hm:∃ es k,w.heap[b]? = some (.map es k)) (hg:w.grownBy w' (some b)):GR w' B f c n k c' n' k' r S:=by
 refine ⟨?_,h.2.mapped hm hg,h.3⟩
 obtain ⟨a,n2,c2,h1,h2⟩:=h.1
 exact ⟨a,n2,c2,h1,h2.mapped hm hg⟩
theorem ML.mapped {w w':World} {B:Nat} {v:Value} {n:Nat} {X:Nat→Rat} {S:Nat} (h:ML w B v n X S) (hB:B≤w.heap.size) {b:Nat} (hm:∃ es k,w.heap[b]? = some (.map es k)) (hb:B≤b) (hg:w.grownBy w' (some b)):ML w' B v n X S:=by
 obtain ⟨vs,h1,h2⟩:=h
 refine ⟨vs,World.ownsRow.kept h1 hg (row_map h1 hm),fun i hi=>?_⟩
 obtain ⟨p,a,na,ca,d,nd,cd,g1,g2,g3,g4⟩:=h2 i hi
 refine ⟨p,a,na,ca,d,nd,cd,g1,g2,g3,?_⟩
 rcases g4 with g4|g4
 ·exact .inl (g4.mapped hm hg)
 ·exact .inr fun w2 h2=>g4 w2 ((grown_below hg hB (fun g e=>by cases e;exact hb)).trans h2)
structure GMap (w:World) (B b:Nat) (t:Nat→PT) (Z:Nat→Nat) (n k S:Nat) (D:DataW Value) (V:Int→Value):Prop where
 own:w.ownsMap Tryz.prog 3 rawR b k D
 val:∀ x,D.atKey (.int .i64 x) (.held (.slice none 0 0)) = .held (V x)
 has:∀ x,Maps.has D (.int .i64 x)=true↔pn t Z n x k≠[]
 ml:∀ x,ML w B (V x) (pn t Z n x k).length (lX (pn t Z n x k)) S
 ne:∀ x y g,x≠y→(V x).ownBlock=some g→(V y).ownBlock≠some g
 bb:B≤b
 bs:B≤w.heap.size
theorem GMap.start (w:World) (t:Nat→PT) (Z:Nat→Nat) (n S:Nat):GMap (w.alloc (.map #[] 0)) w.heap.size w.heap.size t Z n 0 S (.map []) (fun _=>.slice none 0 0):=by
 have e:∀ x,pn t Z n x 0=[]:=fun x=>by unfold pn;split <;> rfl
 refine ⟨World.ownsMap_made _ _ _ _,fun x=>rfl,fun x=>?_,fun x=>?_,fun x y g _ h=>(by cases h),Nat.le_refl _,(by simp)⟩
 ·rw [e]
  constructor
  ·intro h;cases h
  ·intro h;exact absurd rfl h
 ·rw [e]
  exact (RL.nil _ _ _ _).ml
theorem GMap.isMap {w:World} {B b:Nat} {t:Nat→PT} {Z:Nat→Nat} {n k S:Nat} {D:DataW Value} {V:Int→Value} (h:GMap w B b t Z n k S D V):∃ es k,w.heap[b]? = some (.map es k):=by
 obtain ⟨es,c,h,_⟩:=h.own
 exact ⟨es,c,h⟩
theorem GMap.below {w w':World} {B b:Nat} {t:Nat→PT} {Z:Nat→Nat} {n k S:Nat} {D:DataW Value} {V:Int→Value} (h:GMap w B b t Z n k S D V) (hb:Below w.heap.size w w'):GMap w' B b t Z n k S D V:=by
 refine ⟨?_,h.val,h.has,fun x=>(h.ml x).below h.bs hb,h.ne,h.bb,Nat.le_trans h.bs hb.size⟩
 have hl:=h.own.lt
 obtain ⟨es,c,h1,h2⟩:=h.own
 exact ⟨es,c,(hb.block b hl).trans h1,h2⟩
theorem GMap.skip {w:World} {B b:Nat} {t:Nat→PT} {Z:Nat→Nat} {n k S:Nat} {D:DataW Value} {V:Int→Value} (h:GMap w B b t Z n k S D V) (ho:¬ (0≤(t k).var∧(t k).var<(n:Int))):GMap w B b t Z n (k+1) S D V :=
 ⟨h.own.mono (Nat.le_succ _),h.val,fun x=>by rw [pn_out ho];exact h.has x,fun x=>by rw [pn_out ho];exact h.ml x,h.ne,h.bb,h.bs⟩
theorem key_int (x:Int):WideAt.IsKeyLit (.int .i64 x):=trivial
theorem wf_i64 {x:Int} (h1:-9223372036854775808≤x) (h2:x≤9223372036854775807):(Lit.int .i64 x).wf=true:=by
 have e1:IntKind.i64.min = -9223372036854775808:=by decide
 have e2:IntKind.i64.max=9223372036854775807:=by decide
 simp only [Lit.wf,e1,e2,Bool.and_eq_true,decide_eq_true_eq]
 exact ⟨h1,h2⟩
theorem GMap.look {w:World} {B b:Nat} {t:Nat→PT} {Z:Nat→Nat} {n k S:Nat} {D:DataW Value} {V:Int→Value} (h:GMap w B b t Z n k S D V) {x:Int} (h1:-9223372036854775808≤x) (h2:x≤9223372036854775807) :
  (Instr.lookup 108 (.map (some b)) (.int .i64 x) false).run Tryz.prog w = .ok (V x) w:=by
 obtain ⟨v,p,e1,e2⟩:=h.own.lookup (int_keyed Tryz.underlying3) (t:=108) (e:=97) Tryz.underlying108 (z:=.slice none 0 0) (Tryz.zeroValue97 w) (zd:=.held (.slice none 0 0)) (zp:=[]) rfl (keyOf_int_mk Tryz.underlying3 (wf_i64 h1 h2))
 rw [h.val x] at e2
 simp only [rawR,Option.some.injEq,Prod.mk.injEq,DataW.held.injEq] at e2
 rw [e1,e2.1]
theorem GMap.step {w w1 w2:World} {B b:Nat} {t:Nat→PT} {Z:Nat→Nat} {n k S:Nat} {D:DataW Value} {V:Int→Value} (h:GMap w B b t Z n k S D V) (hi:0≤(t k).var∧(t k).var<(n:Int))
  {v:Value} (hv:ML w1 B v ((pn t Z n (t k).var k).length+1) (fun i=>if i<(pn t Z n (t k).var k).length then lX (pn t Z n (t k).var k) i else (t k).coef) S) (hg:w.grownBy w1 (V (t k).var).ownBlock)
  (hat:v.ownBlock=(V (t k).var).ownBlock∨v.ownBlock=some w.heap.size) (ho:w2.ownsMap Tryz.prog 3 rawR b (k+1) (D.put (.int .i64 (t k).var) (.held v))) (hg2:w1.grownBy w2 (some b)) :
  GMap w2 B b t Z n (k+1) S (D.put (.int .i64 (t k).var) (.held v)) (fun y=>if y=(t k).var then v else V y):=by
 have hM:=h.own.isMap
 have hm:=h.isMap
 have hs1:w.heap.size≤w1.heap.size:=hg.size
 have hs2:w1.heap.size≤w2.heap.size:=hg2.size
 have hbs:=h.bs
 have hB1:B≤w1.heap.size:=by omega
 have hm1:∃ es c,w1.heap[b]? = some (.map es c):=by
  obtain ⟨es,c,e⟩:=hm
  refine ⟨es,c,(hg.block b (Array.getElem?_eq_some_iff.1 e).1 fun e2=>?_).trans e⟩
  obtain ⟨vs,r,_⟩:=h.ml (t k).var
  rcases row_map r ⟨es,c,e⟩ with e3|e3
  ·rw [e3] at e2;cases e2
  ·exact e3 e2.symm
 have hlt:∀ y g,(V y).ownBlock=some g→g<w.heap.size:=fun y g e=>((h.ml y).lt g e).2
 refine ⟨ho,fun x=>?_,fun x=>?_,fun x=>?_,?_,h.bb,by omega⟩
 ·by_cases e:x=(t k).var
  ·subst e
   rw [atKey_put_same hM (key_int _),if_pos rfl]
  ·rw [atKey_put_other (by simpa using e),if_neg e]
   exact h.val x
 ·by_cases e:x=(t k).var
  ·subst e
   rw [has_put_same hM (key_int _),pn_same hi]
   simp
  ·rw [has_put_other (by simpa using e),pn_other (fun e2=>e e2.symm)]
   exact h.has x
 ·by_cases e:x=(t k).var
  ·subst e
   rw [if_pos rfl,pn_same hi,List.length_append]
   refine (hv.mapped hB1 hm1 h.bb hg2).congr fun i hi=>?_
   show (if i<_ then _ else _)=_
   split
   ·rename_i h2;rw [lX_lt h2]
   ·rename_i h2
    obtain rfl:i=(pn t Z n (t k).var k).length:=by
     have:i<(pn t Z n (t k).var k).length+1:=hi
     omega
    rw [lX_eq]
  ·rw [if_neg e,pn_other (fun e2=>e e2.symm)]
   exact ((h.ml x).grow h.bs (h.ml (t k).var) (fun g e2=>h.ne x (t k).var g e e2) hg).mapped hB1 hm1 h.bb hg2
 ·intro x y g hxy e1 e2
  by_cases ex:x=(t k).var
  ·have ey:¬ y=(t k).var:=fun e=>hxy (ex.trans e.symm)
   rw [if_pos ex] at e1
   rw [if_neg ey] at e2
   rcases hat with hat|hat
   ·rw [hat] at e1
    exact h.ne _ _ g (fun e=>ey e.symm) e1 e2
   ·rw [hat] at e1
    cases e1
    have:=hlt y _ e2
    omega
  ·rw [if_neg ex] at e1
   by_cases ey:y=(t k).var
   ·rw [if_pos ey] at e2
    rcases hat with hat|hat
    ·rw [hat] at e2
     exact h.ne _ _ g ex e1 e2
    ·rw [hat] at e2
     cases e2
     have:=hlt x _ e1
     omega
   ·rw [if_neg ey] at e2
    exact h.ne x y g hxy e1 e2
theorem GMap.step' {w w1 w2:World} {B b:Nat} {t:Nat→PT} {Z:Nat→Nat} {n k S:Nat} {D:DataW Value} {V:Int→Value} {x:Int} (hx:x=(t k).var) (h:GMap w B b t Z n k S D V) (hi:0≤x∧x<(n:Int)) {c:Nat} (hc:c=(pn t Z n x k).length) {v0:Value} (hv0:V x=v0)
  {g cap H:Nat} (hv:ML w1 B (.slice (some ⟨g,0,none⟩) (c+1) cap) (c+1) (fun i=>if i<c then lX (pn t Z n x k) i else (t k).coef) S) (hg:w.grownBy w1 v0.ownBlock)
  (hat:v0.ownBlock=some g∨g=H) (hH:w.heap.size=H) (ho:w2.ownsMap Tryz.prog 3 rawR b (k+1) (D.put (.int .i64 x) (.held (.slice (some ⟨g,0,none⟩) (c+1) cap)))) (hg2:w1.grownBy w2 (some b)) :
  GMap w2 B b t Z n (k+1) S (D.put (.int .i64 x) (.held (.slice (some ⟨g,0,none⟩) (c+1) cap))) (fun y=>if y=x then .slice (some ⟨g,0,none⟩) (c+1) cap else V y):=by
 subst hx hc hv0 hH
 refine h.step hi hv hg ?_ ho hg2
 rcases hat with e|e
 ·exact .inl e.symm
 ·exact .inr (by rw [← e];rfl)
end Go.Proofs.YtceigfafmalfgaaGreatDoor
namespace Go.Proofs.YtceigfafmalfgaaGreatDoor
open Go.RowKit Go.Maps Go.Sort Go.Shelf
theorem sortsK (m:Nat):AnyZI.SortsIn Tryz.prog Tryz.sortedA_ren Fence.wide m :=
 ⟨fun blk off cap ss W hH hblk hsz=>callsIn_wide.2 (AnyM.slices_Sort_int Tryz.sortA blk off cap ss W hH hblk hsz),
  fun p cap W=>callsIn_wide.2 (AnyM.slices_Sort_int_none Tryz.sortA p cap W)⟩
theorem keysK (mb:Option Nat) (W:World):Calls Tryz.prog 44 #[.map mb] W fun e w'=>e = .returned (.func (.func 61) #[] #[.pointer (some ⟨W.heap.size,0,none⟩)])∧w'=W.alloc (.cells #[.map mb] 108) :=
 (callsIn_wide (n:=5)).1 (AnyZI.keys_in Tryz.keysA Fence.wide 5 trivial rfl mb W)
set_option maxHeartbeats 1000000 in
theorem sortedK {H:Type} (b nn:Nat) (D0:DataW H) (R:Value→Option (DataW H × List MemPlace)) (w:World) (hown:w.ownsMap Tryz.prog 3 R b nn D0) (hmax:Maps.size D0≤maxLen) (hbytes:Maps.size D0*8≤140737488355328) :
  Calls Tryz.prog 43 #[.func (.func 61) #[] #[.pointer (some ⟨w.heap.size,0,none⟩)]] (w.alloc (.cells #[.map (some b)] 108)) fun e w'=>∃ (v:Value) (ss:List Int),e = .returned v∧ss.Perm (intKeys D0) ∧
   w'.ownsRow (w.alloc (.cells #[.map (some b)] 108)).heap.size 3 1 v ss.length ((ss.mergeSort (fun x y=>decide (x≤y))).map encZ)∧(v = .slice none 0 0↔ss=[])∧Below (w.alloc (.cells #[.map (some b)] 108)).heap.size (w.alloc (.cells #[.map (some b)] 108)) w':=by
 have hbl:=hown.lt
 have hseq:SeqGives Fence.wide 2 Tryz.prog 61 #[.pointer (some ⟨w.heap.size,0,none⟩)] encZ (fun ss=>ss.Perm (intKeys D0)) (Maps.size D0) (w.alloc (.cells #[.map (some b)] 108)) :=
  AnyZI.keys_gives (ρ:=Tryz.keysA_ren) { Tryz.keysA with } Fence.wide _ trivial rfl (by omega) w.heap.size b nn D0 _ (by simp) (by simp) (by
   obtain ⟨es,clock,hb,Ft,hs,hD⟩:=hown
   exact ⟨es,clock,(Below.heap_alloc _ _ b hbl).trans hb,Ft,hs,hD⟩)
 exact (callsIn_wide (n:=5)).1 (AnyZI.sorted_in Tryz.sortedA Fence.wide 5 trivial trivial trivial trivial rfl (by omega) (sortsK _) (enters_of Tryz.func60 (by kernel_rfl) rfl) 61 #[.pointer (some ⟨w.heap.size,0,none⟩)] trivial (enters_of Tryz.func61 (by kernel_rfl) rfl) _ _ hmax hbytes _ hseq)
def Kys (D:DataW Value) (ks:List Int):Prop:=(∀ x,x ∈ ks↔has D (.int .i64 x)=true)∧ks.Pairwise (· < ·)
theorem kys_of {w:World} {b n:Nat} {D:DataW Value} (hown:w.ownsMap Tryz.prog 3 rawR b n D) {ss:List Int} (hp:ss.Perm (intKeys D)):Kys D (ss.mergeSort (fun x y=>decide (x≤y))):=by
 have hK:=int_keyed Tryz.underlying3
 obtain ⟨es,hD,hpw,_⟩:=hown.entries hK
 obtain ⟨es',hD',hko⟩:=hown.keysOf
 obtain rfl:es=es':=by rw [hD] at hD';simpa using hD'
 subst hD
 have hki:∀ p ∈ es,∃ x,p.1 = .int .i64 x:=fun p hp=>by obtain ⟨v,hv⟩:=hko p hp;obtain ⟨x,_,hx,_⟩:=Maps.keyOf_i64 Tryz.underlying3 hv;exact ⟨x,hx⟩
 have hnd:(intKeys (.map es)).Nodup:=by
  show (es.map fun p=>Go.intOf p.1).Nodup
  refine List.pairwise_map.2 (hpw.imp_of_mem fun {p q} hp' hq' hne e=>hne ?_)
  obtain ⟨a,ha⟩:=hki p hp'
  obtain ⟨b,hb⟩:=hki q hq'
  rw [ha,hb] at e ⊢
  exact congrArg _ e
 have hmem:∀ x,x ∈ intKeys (.map es)↔has (.map es) (.int .i64 x)=true:=fun x=>by
  rw [has_eq,List.any_eq_true]
  show x ∈ es.map (fun p=>Go.intOf p.1)↔_
  rw [List.mem_map]
  constructor
  ·rintro ⟨p,hp',rfl⟩
   obtain ⟨a,ha⟩:=hki p hp'
   exact ⟨p,hp',by rw [ha];simp [Lit.sameKey,Go.intOf]⟩
  ·rintro ⟨p,hp',hs⟩
   obtain ⟨a,ha⟩:=hki p hp'
   rw [ha] at hs
   exact ⟨p,hp',by rw [ha];simpa [Lit.sameKey,Go.intOf] using hs⟩
 have hq:=(List.mergeSort_perm ss (fun x y=>decide (x≤y))).trans hp
 refine ⟨fun x=>by rw [hq.mem_iff];exact hmem x,?_⟩
 have hnd2:(ss.mergeSort (fun x y=>decide (x≤y))).Nodup:=hq.nodup_iff.2 hnd
 have hs:=List.pairwise_mergeSort (le:=fun x y:Int=>decide (x≤y)) (fun a b c h1 h2=>by simp only [decide_eq_true_eq] at *;exact Int.le_trans h1 h2) (fun a b=>by simp only [Bool.or_eq_true,decide_eq_true_eq];exact Int.le_total a b) ss
 refine (hs.and hnd2).imp fun {a b} h=>?_
 have h1:a≤b:=by simpa using h.1
 have h2:a≠b:=h.2
 omega
theorem int_row {w:World} {B:Nat} {v:Value} {n:Nat} {ks:List Int} (h:w.ownsRow B 3 1 v n (ks.map encZ)) (hl:ks.length=n):∃ a cap,v = .slice a ks.length cap∧(ks.length=0∨∃ g,a=some ⟨g,0,none⟩∧∀ (i:Nat) x,ks[i]? = some x→w.cell? ⟨g,i,none⟩=some (.int .i64 x)):=by
 subst hl
 rcases h.2 with ⟨rfl,h0⟩|⟨g,cap,cur,e1,_,hg,_,_,_,ht⟩
 ·exact ⟨none,0,by rw [h0],.inl h0⟩
 ·refine ⟨_,cap,e1,.inr ⟨g,rfl,fun i x hx=>row_cell hg ht ?_⟩⟩
  rw [List.getElem?_map,hx]
  rfl
theorem sortedQ (b nn:Nat) (D:DataW Value) (w:World) (hown:w.ownsMap Tryz.prog 3 rawR b nn D) (hn:nn≤1000000000) :
  Calls Tryz.prog 43 #[.func (.func 61) #[] #[.pointer (some ⟨w.heap.size,0,none⟩)]] (w.alloc (.cells #[.map (some b)] 108)) fun e w'=>∃ a cap ks,e = .returned (.slice a ks.length cap)∧Kys D ks∧(ks.length=0∨∃ g,a=some ⟨g,0,none⟩∧∀ (i:Nat) x,ks[i]? = some x→w'.cell? ⟨g,i,none⟩=some (.int .i64 x))∧ks.length≤nn∧Below w.heap.size w w':=by
 have hs:Maps.size D≤nn:=hown.size_le
 refine (sortedK b nn D rawR w hown (by unfold maxLen;omega) (by omega)).mono ?_
 rintro e w' ⟨v,ss,rfl,hp,hr,_,hb⟩
 obtain ⟨a,cap,rfl,hc⟩:=int_row hr (List.length_mergeSort _)
 refine ⟨a,cap,_,rfl,kys_of hown hp,hc,?_,bel_tr (bel_d0 _ _) hb⟩
 rw [List.length_mergeSort,hp.length_eq]
 obtain ⟨es,rfl⟩:=hown.isMap
 have e:(intKeys (H:=Value) (.map es)).length=Maps.size (.map es):=by
  show (es.map _).length=es.length
  rw [List.length_map]
 omega
end Go.Proofs.YtceigfafmalfgaaGreatDoor
