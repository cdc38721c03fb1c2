import Derived.Test.YtmeimjakdheidaaGreatDoorPqBAll
import Derived.Test.YtmeimjakdheidaaGreatDoorPqEAll
import Derived.Maps.OwnSet
import Derived.Test.YtmeimjakdheidaaGreatDoorLaysK
import Derived.Test.YtmeimjakdheidaaGreatDoorRatAll
import Derived.Test.YtmeimjakdheidaaGreatDoorNumAll
import Derived.Test.YtmeimjakdheidaaGreatDoorDivAll
import Derived.Test.YtmeimjakdheidaaGreatDoorPqAAll
namespace Go.Proofs.YtmeimjakdheidaaGreatDoor
open Go.RowKit Go.Maps
def yX (v:Value):Option (DataW Value × List MemPlace):=some (.held v,[])
def pn (t:Nat→PT) (Z:Nat→Nat) (n:Nat) (x:Int) (k:Nat):List (Rat × Nat):=if 0≤x∧x<(n:Int) then ps t Z x k else []
theorem pn_in {t:Nat→PT} {Z:Nat→Nat} {n:Nat} {x:Int} {k:Nat} (h:0≤x∧x<(n:Int)):pn t Z n x k=ps t Z x k:=if_pos h
theorem pn_same {t:Nat→PT} {Z:Nat→Nat} {n:Nat} {k:Nat} (h:0≤(t k).var∧(t k).var<(n:Int)):pn t Z n (t k).var (k+1)=pn t Z n (t k).var k++[((t k).coef,Z k)]:=by
 rw [pn_in h,pn_in h]
 show (if (t k).var=(t k).var then _ else _)=_
 rw [if_pos rfl]
theorem sV {t:Nat→PT} {Z:Nat→Nat} {n:Nat} {x:Int} {k:Nat} (h:(t k).var≠x):pn t Z n x (k+1)=pn t Z n x k:=by
 unfold pn
 split
 ·show (if (t k).var=x then _ else _)=_
  rw [if_neg h]
 ·rfl
theorem pn_out {t:Nat→PT} {Z:Nat→Nat} {n:Nat} {k:Nat} (h:¬ (0≤(t k).var∧(t k).var<(n:Int))) (x:Int):pn t Z n x (k+1)=pn t Z n x k:=by
 by_cases e:(t k).var=x
 ·subst e
  unfold pn
  rw [if_neg h,if_neg h]
 ·exact sV e
theorem pn_len (t:Nat→PT) (Z:Nat→Nat) (n:Nat) (x:Int) (k:Nat):(pn t Z n x k).length≤k:=by
 unfold pn
 split
 ·exact ps_len t Z x k
 ·exact Nat.zero_le _
theorem ML.grow {w w':World} {B:Nat} {v:Value} {n:Nat} {X:Nat→Rat} {S:Nat} (h:ML w B v n X S) (hB:B≤w.heap.size) {lv:Value} {m:Nat} {Y:Nat→Rat} {R:Nat} (k:ML w B lv m Y R) (hne:∀ g,v.ownBlock=some g→lv.ownBlock≠some g) (hg:w.grownBy w' lv.ownBlock):ML w' B v n X S:=by
 obtain ⟨vs,h1,h2⟩:=h
 obtain ⟨us,k1,k2⟩:=k
 refine ⟨vs,World.ownsRow.kept h1 hg (row_or hne),fun i hi=>?_⟩
 obtain ⟨p,a,na,ca,d,nd,cd,g1,g2,g3,g4⟩:=h2 i hi
 exact ⟨p,a,na,ca,d,nd,cd,g1,g2,g3,g4.grow hB k1 hg⟩
theorem rF {w:World} {B:Nat} {T:TypeId} {c:Nat} {v:Value} {n:Nat} {xs:List Value} (h:w.ownsRow B T c v n xs) {b:Nat} (hm:∃ es k,w.heap[b]? = some (.map es k)):v.ownBlock=none∨v.ownBlock≠some b:=by
 rcases h.2 with ⟨e1,_⟩|⟨g1,c1,cur1,e1,_,f1,_⟩
 ·subst e1;exact .inl rfl
 ·refine .inr fun e=>?_
  subst e1
  simp [Value.ownBlock] at e
  subst e
  obtain ⟨es,k,hm⟩:=hm
  rw [f1] at hm
  cases hm
theorem Got.mapped {w w':World} {B:Nat} {v:Value} {x:Int} {S:Nat} (h:Got w B v x S) {b:Nat} (hm:∃ es k,w.heap[b]? = some (.map es k)) (hg:w.grownBy w' (some b)):Got w' B v x S:=by
 obtain ⟨xs,h1,h2⟩:=h
 exact ⟨xs,World.ownsRow.kept h1 hg (rF h1 hm),h2⟩
theorem GR.mapped {w w':World} {B:Nat} {f:Bool} {c:Option Addr} {n k:Nat} {c':Option Addr} {n' k':Nat} {r:Rat} {S:Nat} (h:GR w B f c n k c' n' k' r S) {b:Nat} (hm:∃ es k,w.heap[b]? = some (.map es k)) (hg:w.grownBy w' (some b)):GR w' B f c n k c' n' k' r S:=by
 refine ⟨?_,h.2.mapped hm hg,h.3⟩
 obtain ⟨a,n2,c2,h1,h2⟩:=h.1
 exact ⟨a,n2,c2,h1,h2.mapped hm hg⟩
theorem ML.mapped {w w':World} {B:Nat} {v:Value} {n:Nat} {X:Nat→Rat} {S:Nat} (h:ML w B v n X S) (hB:B≤w.heap.size) {b:Nat} (hm:∃ es k,w.heap[b]? = some (.map es k)) (hb:B≤b) (hg:w.grownBy w' (some b)):ML w' B v n X S:=by
 obtain ⟨vs,h1,h2⟩:=h
 refine ⟨vs,World.ownsRow.kept h1 hg (rF h1 hm),fun i hi=>?_⟩
 obtain ⟨p,a,na,ca,d,nd,cd,g1,g2,g3,g4⟩:=h2 i hi
 refine ⟨p,a,na,ca,d,nd,cd,g1,g2,g3,?_⟩
 rcases g4 with g4|g4
 ·exact .inl (g4.mapped hm hg)
 ·exact .inr fun w2 h2=>g4 w2 ((grown_below hg hB (fun g e=>by cases e;exact hb)).trans h2)
structure GMap (w:World) (B b:Nat) (t:Nat→PT) (Z:Nat→Nat) (n k S:Nat) (D:DataW Value) (V:Int→Value):Prop where
 own:w.ownsMap Tryz.prog 3 yX b k D
 val:∀ x,D.atKey (.int .i64 x) (.held (.slice none 0 0)) = .held (V x)
 has:∀ x,Maps.has D (.int .i64 x)=true↔pn t Z n x k≠[]
 ml:∀ x,ML w B (V x) (pn t Z n x k).length (lX (pn t Z n x k)) S
 ne:∀ x y g,x≠y→(V x).ownBlock=some g→(V y).ownBlock≠some g
 bb:B≤b
 bs:B≤w.heap.size
theorem GMap.start (w:World) (t:Nat→PT) (Z:Nat→Nat) (n S:Nat):GMap (w.alloc (.map #[] 0)) w.heap.size w.heap.size t Z n 0 S (.map []) (fun _=>.slice none 0 0):=by
 have e:∀ x,pn t Z n x 0=[]:=fun x=>by unfold pn;split <;> rfl
 refine ⟨World.ownsMap_made _ _ _ _,fun x=>rfl,fun x=>?_,fun x=>?_,fun x y g _ h=>(by cases h),Nat.le_refl _,(by simp)⟩
 ·rw [e]
  constructor
  ·intro h;cases h
  ·intro h;exact absurd rfl h
 ·rw [e]
  exact (RL.nil _ _ _ _).ml
theorem GMap.isMap {w:World} {B b:Nat} {t:Nat→PT} {Z:Nat→Nat} {n k S:Nat} {D:DataW Value} {V:Int→Value} (h:GMap w B b t Z n k S D V):∃ es k,w.heap[b]? = some (.map es k):=by
 obtain ⟨es,c,h,_⟩:=h.own
 exact ⟨es,c,h⟩
theorem GMap.below {w w':World} {B b:Nat} {t:Nat→PT} {Z:Nat→Nat} {n k S:Nat} {D:DataW Value} {V:Int→Value} (h:GMap w B b t Z n k S D V) (hb:Below w.heap.size w w'):GMap w' B b t Z n k S D V:=by
 refine ⟨?_,h.val,h.has,fun x=>(h.ml x).below h.bs hb,h.ne,h.bb,Nat.le_trans h.bs hb.size⟩
 have hl:=h.own.lt
 obtain ⟨es,c,h1,h2⟩:=h.own
 exact ⟨es,c,(hb.block b hl).trans h1,h2⟩
theorem GMap.skip {w:World} {B b:Nat} {t:Nat→PT} {Z:Nat→Nat} {n k S:Nat} {D:DataW Value} {V:Int→Value} (h:GMap w B b t Z n k S D V) (ho:¬ (0≤(t k).var∧(t k).var<(n:Int))):GMap w B b t Z n (k+1) S D V :=
 ⟨h.own.mono (Nat.le_succ _),h.val,fun x=>by rw [pn_out ho];exact h.has x,fun x=>by rw [pn_out ho];exact h.ml x,h.ne,h.bb,h.bs⟩
theorem key_int (x:Int):WideAt.IsKeyLit (.int .i64 x):=trivial
theorem wf_i64 {x:Int} (h1:-9223372036854775808≤x) (h2:x≤9223372036854775807):(Lit.int .i64 x).wf=true:=by
 have e1:IntKind.i64.min = -9223372036854775808:=by decide
 have e2:IntKind.i64.max=9223372036854775807:=by decide
 simp only [Lit.wf,e1,e2,Bool.and_eq_true,decide_eq_true_eq]
 exact ⟨h1,h2⟩
theorem GMap.look {w:World} {B b:Nat} {t:Nat→PT} {Z:Nat→Nat} {n k S:Nat} {D:DataW Value} {V:Int→Value} (h:GMap w B b t Z n k S D V) {x:Int} (h1:-9223372036854775808≤x) (h2:x≤9223372036854775807) :
 (Instr.lookup 112 (.map (some b)) (.int .i64 x) false).run Tryz.prog w = .ok (V x) w:=by
 obtain ⟨v,p,e1,e2⟩:=h.own.lookup (int_keyed Tryz.underlying3) (t:=112) (e:=32) Tryz.underlying112 (z:=.slice none 0 0) (Tryz.zeroValue32 w) (zd:=.held (.slice none 0 0)) (zp:=[]) rfl (keyOf_int_mk Tryz.underlying3 (wf_i64 h1 h2))
 rw [h.val x] at e2
 simp only [yX,Option.some.injEq,Prod.mk.injEq,DataW.held.injEq] at e2
 rw [e1,e2.1]
theorem GMap.step {w w1 w2:World} {B b:Nat} {t:Nat→PT} {Z:Nat→Nat} {n k S:Nat} {D:DataW Value} {V:Int→Value} (h:GMap w B b t Z n k S D V) (hi:0≤(t k).var∧(t k).var<(n:Int))
 {v:Value} (hv:ML w1 B v ((pn t Z n (t k).var k).length+1) (fun i=>if i<(pn t Z n (t k).var k).length then lX (pn t Z n (t k).var k) i else (t k).coef) S) (hg:w.grownBy w1 (V (t k).var).ownBlock)
 (hat:v.ownBlock=(V (t k).var).ownBlock∨v.ownBlock=some w.heap.size) (ho:w2.ownsMap Tryz.prog 3 yX b (k+1) (D.put (.int .i64 (t k).var) (.held v))) (hg2:w1.grownBy w2 (some b)) :
 GMap w2 B b t Z n (k+1) S (D.put (.int .i64 (t k).var) (.held v)) (fun y=>if y=(t k).var then v else V y):=by
 have hM:=h.own.isMap
 have hm:=h.isMap
 have hs1:w.heap.size≤w1.heap.size:=hg.size
 have hs2:w1.heap.size≤w2.heap.size:=hg2.size
 have hbs:=h.bs
 have hB1:B≤w1.heap.size:=by omega
 have hm1:∃ es c,w1.heap[b]? = some (.map es c):=by
  obtain ⟨es,c,e⟩:=hm
  refine ⟨es,c,(hg.block b (Array.getElem?_eq_some_iff.1 e).1 fun e2=>?_).trans e⟩
  obtain ⟨vs,r,_⟩:=h.ml (t k).var
  rcases rF r ⟨es,c,e⟩ with e3|e3
  ·rw [e3] at e2;cases e2
  ·exact e3 e2.symm
 have hlt:∀ y g,(V y).ownBlock=some g→g<w.heap.size:=fun y g e=>((h.ml y).lt g e).2
 refine ⟨ho,fun x=>?_,fun x=>?_,fun x=>?_,?_,h.bb,by omega⟩
 ·by_cases e:x=(t k).var
  ·subst e
   rw [atKey_put_same hM (key_int _),if_pos rfl]
  ·rw [atKey_put_other (by simpa using e),if_neg e]
   exact h.val x
 ·by_cases e:x=(t k).var
  ·subst e
   rw [has_put_same hM (key_int _),pn_same hi]
   simp
  ·rw [has_put_other (by simpa using e),sV (fun e2=>e e2.symm)]
   exact h.has x
 ·by_cases e:x=(t k).var
  ·subst e
   rw [if_pos rfl,pn_same hi,List.length_append]
   refine (hv.mapped hB1 hm1 h.bb hg2).congr fun i hi=>?_
   show (if i<_ then _ else _)=_
   split
   ·rename_i h2;rw [lX_lt h2]
   ·rename_i h2
    obtain rfl:i=(pn t Z n (t k).var k).length:=by
     have:i<(pn t Z n (t k).var k).length+1:=hi
     omega
    rw [lX_eq]
  ·rw [if_neg e,sV (fun e2=>e e2.symm)]
   exact ((h.ml x).grow h.bs (h.ml (t k).var) (fun g e2=>h.ne x (t k).var g e e2) hg).mapped hB1 hm1 h.bb hg2
 ·intro x y g hxy e1 e2
  by_cases ex:x=(t k).var
  ·have ey:¬ y=(t k).var:=fun e=>hxy (ex.trans e.symm)
   rw [if_pos ex] at e1
   rw [if_neg ey] at e2
   rcases hat with hat|hat
   ·rw [hat] at e1
    exact h.ne _ _ g (fun e=>ey e.symm) e1 e2
   ·rw [hat] at e1
    cases e1
    have:=hlt y _ e2
    omega
  ·rw [if_neg ex] at e1
   by_cases ey:y=(t k).var
   ·rw [if_pos ey] at e2
    rcases hat with hat|hat
    ·rw [hat] at e2
     exact h.ne _ _ g ex e1 e2
    ·rw [hat] at e2
     cases e2
     have:=hlt x _ e1
     omega
   ·rw [if_neg ey] at e2
    exact h.ne x y g hxy e1 e2
theorem GMap.step' {w w1 w2:World} {B b:Nat} {t:Nat→PT} {Z:Nat→Nat} {n k S:Nat} {D:DataW Value} {V:Int→Value} {x:Int} (hx:x=(t k).var) (h:GMap w B b t Z n k S D V) (hi:0≤x∧x<(n:Int)) {c:Nat} (hc:c=(pn t Z n x k).length) {v0:Value} (hv0:V x=v0)
 {g cap H:Nat} (hv:ML w1 B (.slice (some ⟨g,0,none⟩) (c+1) cap) (c+1) (fun i=>if i<c then lX (pn t Z n x k) i else (t k).coef) S) (hg:w.grownBy w1 v0.ownBlock)
 (hat:v0.ownBlock=some g∨g=H) (hH:w.heap.size=H) (ho:w2.ownsMap Tryz.prog 3 yX b (k+1) (D.put (.int .i64 x) (.held (.slice (some ⟨g,0,none⟩) (c+1) cap)))) (hg2:w1.grownBy w2 (some b)) :
 GMap w2 B b t Z n (k+1) S (D.put (.int .i64 x) (.held (.slice (some ⟨g,0,none⟩) (c+1) cap))) (fun y=>if y=x then .slice (some ⟨g,0,none⟩) (c+1) cap else V y):=by
 subst hx hc hv0 hH
 refine h.step hi hv hg ?_ ho hg2
 rcases hat with e|e
 ·exact .inl e.symm
 ·exact .inr (by rw [← e];rfl)
end Go.Proofs.YtmeimjakdheidaaGreatDoor
namespace Go.Proofs.YtmeimjakdheidaaGreatDoor
open Go.RowKit Go.Maps Go.Sort Go.Shelf
theorem sortsK (m:Nat):AnyZI.SortsIn Tryz.prog Tryz.sortedA_ren Fence.wide m :=
 ⟨fun blk off cap ss W hH hblk hsz=>callsIn_wide.2 (AnyM.slices_Sort_int Tryz.sortA blk off cap ss W hH hblk hsz),
  fun p cap W=>callsIn_wide.2 (AnyM.slices_Sort_int_none Tryz.sortA p cap W)⟩
theorem keysK (mb:Option Nat) (W:World):Calls Tryz.prog 77 #[.map mb] W fun e w'=>e = .returned (.func (.func 111) #[] #[.pointer (some ⟨W.heap.size,0,none⟩)])∧w'=W.alloc (.cells #[.map mb] 112) :=
 (callsIn_wide (n:=5)).1 (AnyZI.keys_in Tryz.keysA Fence.wide 5 trivial rfl mb W)
set_option maxHeartbeats 1000000 in
theorem sortedK {H:Type} (b nn:Nat) (D0:DataW H) (R:Value→Option (DataW H × List MemPlace)) (w:World) (hown:w.ownsMap Tryz.prog 3 R b nn D0) (hmax:Maps.size D0≤maxLen) (hbytes:Maps.size D0*8≤140737488355328) :
 Calls Tryz.prog 76 #[.func (.func 111) #[] #[.pointer (some ⟨w.heap.size,0,none⟩)]] (w.alloc (.cells #[.map (some b)] 112)) fun e w'=>∃ (v:Value) (ss:List Int),e = .returned v∧ss.Perm (intKeys D0) ∧
  w'.ownsRow (w.alloc (.cells #[.map (some b)] 112)).heap.size 3 1 v ss.length ((ss.mergeSort (fun x y=>decide (x≤y))).map encZ)∧(v = .slice none 0 0↔ss=[])∧Below (w.alloc (.cells #[.map (some b)] 112)).heap.size (w.alloc (.cells #[.map (some b)] 112)) w':=by
 have hbl:=hown.lt
 have hseq:SeqGives Fence.wide 2 Tryz.prog 111 #[.pointer (some ⟨w.heap.size,0,none⟩)] encZ (fun ss=>ss.Perm (intKeys D0)) (Maps.size D0) (w.alloc (.cells #[.map (some b)] 112)) :=
  AnyZI.keys_gives (ρ:=Tryz.keysA_ren) { Tryz.keysA with } Fence.wide _ trivial rfl (by omega) w.heap.size b nn D0 _ (by simp) (by simp) (by
   obtain ⟨es,clock,hb,Ft,hs,hD⟩:=hown
   exact ⟨es,clock,(Below.heap_alloc _ _ b hbl).trans hb,Ft,hs,hD⟩)
 exact (callsIn_wide (n:=5)).1 (AnyZI.sorted_in Tryz.sortedA Fence.wide 5 trivial trivial trivial trivial rfl (by omega) (sortsK _) (enters_of Tryz.func110 (by kernel_rfl) rfl) 111 #[.pointer (some ⟨w.heap.size,0,none⟩)] trivial (enters_of Tryz.func111 (by kernel_rfl) rfl) _ _ hmax hbytes _ hseq)
def Kys (D:DataW Value) (ks:List Int):Prop:=(∀ x,x ∈ ks↔has D (.int .i64 x)=true)∧ks.Pairwise (· < ·)
theorem kys_of {w:World} {b n:Nat} {D:DataW Value} (hown:w.ownsMap Tryz.prog 3 yX b n D) {ss:List Int} (hp:ss.Perm (intKeys D)):Kys D (ss.mergeSort (fun x y=>decide (x≤y))):=by
 have hK:=int_keyed Tryz.underlying3
 obtain ⟨es,hD,hpw,_⟩:=hown.entries hK
 obtain ⟨es',hD',hko⟩:=hown.keysOf
 obtain rfl:es=es':=by rw [hD] at hD';simpa using hD'
 subst hD
 have hki:∀ p ∈ es,∃ x,p.1 = .int .i64 x:=fun p hp=>by obtain ⟨v,hv⟩:=hko p hp;obtain ⟨x,_,hx,_⟩:=Maps.keyOf_i64 Tryz.underlying3 hv;exact ⟨x,hx⟩
 have hnd:(intKeys (.map es)).Nodup:=by
  show (es.map fun p=>Go.intOf p.1).Nodup
  refine List.pairwise_map.2 (hpw.imp_of_mem fun {p q} hp' hq' hne e=>hne ?_)
  obtain ⟨a,ha⟩:=hki p hp'
  obtain ⟨b,hb⟩:=hki q hq'
  rw [ha,hb] at e ⊢
  exact congrArg _ e
 have hmem:∀ x,x ∈ intKeys (.map es)↔has (.map es) (.int .i64 x)=true:=fun x=>by
  rw [has_eq,List.any_eq_true]
  show x ∈ es.map (fun p=>Go.intOf p.1)↔_
  rw [List.mem_map]
  constructor
  ·rintro ⟨p,hp',rfl⟩
   obtain ⟨a,ha⟩:=hki p hp'
   exact ⟨p,hp',by rw [ha];simp [Lit.sameKey,Go.intOf]⟩
  ·rintro ⟨p,hp',hs⟩
   obtain ⟨a,ha⟩:=hki p hp'
   rw [ha] at hs
   exact ⟨p,hp',by rw [ha];simpa [Lit.sameKey,Go.intOf] using hs⟩
 have hq:=(List.mergeSort_perm ss (fun x y=>decide (x≤y))).trans hp
 refine ⟨fun x=>by rw [hq.mem_iff];exact hmem x,?_⟩
 have hnd2:(ss.mergeSort (fun x y=>decide (x≤y))).Nodup:=hq.nodup_iff.2 hnd
 have hs:=List.pairwise_mergeSort (le:=fun x y:Int=>decide (x≤y)) (fun a b c h1 h2=>by simp only [decide_eq_true_eq] at *;exact Int.le_trans h1 h2) (fun a b=>by simp only [Bool.or_eq_true,decide_eq_true_eq];exact Int.le_total a b) ss
 refine (hs.and hnd2).imp fun {a b} h=>?_
 have h1:a≤b:=by simpa using h.1
 have h2:a≠b:=h.2
 omega
theorem int_row {w:World} {B:Nat} {v:Value} {n:Nat} {ks:List Int} (h:w.ownsRow B 3 1 v n (ks.map encZ)) (hl:ks.length=n):∃ a cap,v = .slice a ks.length cap∧(ks.length=0∨∃ g,a=some ⟨g,0,none⟩∧∀ (i:Nat) x,ks[i]? = some x→w.cell? ⟨g,i,none⟩=some (.int .i64 x)):=by
 subst hl
 rcases h.2 with ⟨rfl,h0⟩|⟨g,cap,cur,e1,_,hg,_,_,_,ht⟩
 ·exact ⟨none,0,by rw [h0],.inl h0⟩
 ·refine ⟨_,cap,e1,.inr ⟨g,rfl,fun i x hx=>fQ hg ht ?_⟩⟩
  rw [List.getElem?_map,hx]
  rfl
theorem sortedQ (b nn:Nat) (D:DataW Value) (w:World) (hown:w.ownsMap Tryz.prog 3 yX b nn D) (hn:nn≤1000000000) :
 Calls Tryz.prog 76 #[.func (.func 111) #[] #[.pointer (some ⟨w.heap.size,0,none⟩)]] (w.alloc (.cells #[.map (some b)] 112)) fun e w'=>∃ a cap ks,e = .returned (.slice a ks.length cap)∧Kys D ks∧(ks.length=0∨∃ g,a=some ⟨g,0,none⟩∧∀ (i:Nat) x,ks[i]? = some x→w'.cell? ⟨g,i,none⟩=some (.int .i64 x))∧ks.length≤nn∧Below w.heap.size w w':=by
 have hs:Maps.size D≤nn:=hown.size_le
 refine (sortedK b nn D yX w hown (by unfold maxLen;omega) (by omega)).mono ?_
 rintro e w' ⟨v,ss,rfl,hp,hr,_,hb⟩
 obtain ⟨a,cap,rfl,hc⟩:=int_row hr (List.length_mergeSort _)
 refine ⟨a,cap,_,rfl,kys_of hown hp,hc,?_,aF (aI _ _) hb⟩
 rw [List.length_mergeSort,hp.length_eq]
 obtain ⟨es,rfl⟩:=hown.isMap
 have e:(intKeys (H:=Value) (.map es)).length=Maps.size (.map es):=by
  show (es.map _).length=es.length
  rw [List.length_map]
 omega
end Go.Proofs.YtmeimjakdheidaaGreatDoor
namespace Go.Proofs.YtmeimjakdheidaaGreatDoor
open Go.RowKit
def Rw (t:TypeId) (w:World) (R:Nat) (cs:Array Value):Prop:=w.heap[R]? = some (.cells cs t (0,0))
theorem Rw.lt {t:TypeId} {w:World} {R:Nat} {cs:Array Value} (h:Rw t w R cs):R<w.heap.size:=(Array.getElem?_eq_some_iff.1 h).1
theorem Rw.new (t:TypeId) (w:World) (cs:Array Value):Rw t (w.alloc (.cells cs t)) w.heap.size cs:=heap_alloc_new _ _
theorem Rw.below {t:TypeId} {w w':World} {R:Nat} {cs:Array Value} (h:Rw t w R cs) (hb:Below w.heap.size w w'):Rw t w' R cs:=(hb.block R h.lt).trans h
theorem Rw.off {t:TypeId} {w w':World} {R g:Nat} {cs:Array Value} (h:Rw t w R cs) (o:Off g w w') (hg:R≠g):Rw t w' R cs:=(o.block R hg).trans h
theorem Rw.alloc {t:TypeId} {w:World} {R:Nat} {cs:Array Value} (h:Rw t w R cs) (o:Obj):Rw t (w.alloc o) R cs:=h.below ((Below.refl _ _).alloc (Nat.le_refl _) _)
theorem Rw.cell {t:TypeId} {w:World} {R:Nat} {cs:Array Value} (h:Rw t w R cs) (j:Nat):w.cell? ⟨R,j,none⟩=cs[j]?:=cell_of_row w R j cs t _ h
theorem Rw.frozen {t:TypeId} {w:World} {R:Nat} {cs:Array Value} (h:Rw t w R cs) (j:Nat):w.frozen? ⟨R,j,none⟩=false:=frozen_of_row w R j cs t h
theorem Rw.row {t:TypeId} {w:World} {R:Nat} {cs:Array Value} (h:Rw t w R cs) (cs':Array Value):Rw t (w.setRow R cs') R cs'∧Off R w (w.setRow R cs') :=
 ⟨setRow_heap w R cs cs' t _ h,⟨rfl,rfl,rfl,by simp,fun k hk=>setRow_other w R k cs' hk⟩⟩
theorem Rw.put {t:TypeId} {w:World} {R:Nat} {old:Array Value} (h:Rw t w R old) (cs:Array Value) {ops:Array Oper} {rest:List Oper} {o:Oper} {a:Act} {Q:Exit→Act→World→Prop} (hgd:o.guard=none) (x y:Operand) (ho:o.op = .store t x y)
 (hx:a.eval x = .pointer (some ⟨R,0,none⟩)) (hy:a.eval y = .agg cs) (hi:(Tryz.prog.info? t).map (·.size)=some cs.size) (hold:old.size=cs.size) (h1:cs.all (·.oneCell')=true)
 (hK:∀ w',Rw t w' R cs→Off R w w'→wpList Tryz.prog ops Q rest (a.put o.dst undef) w'):wpList Tryz.prog ops Q (o::rest) a w :=
 wpList_store_row hgd t x y ho R cs hx hy t old h hi hold h1 (hK _ (h.row cs).1 (h.row cs).2)
theorem Rw.get {t:TypeId} {w:World} {R:Nat} {cs:Array Value} (h:Rw t w R cs) {ops:Array Oper} {rest:List Oper} {o:Oper} {a:Act} {Q:Exit→Act→World→Prop} (hgd:o.guard=none) (x:Operand) (ho:o.op = .load t x)
 (hx:a.eval x = .pointer (some ⟨R,0,none⟩)) {fs} (hu:Tryz.prog.underlying t=some (.struct fs)) (hi:(Tryz.prog.info? t).map (·.size)=some cs.size)
 (hK:wpList Tryz.prog ops Q rest (a.put o.dst (.agg cs)) w):wpList Tryz.prog ops Q (o::rest) a w :=
 wpList_load_row hgd t x ho R hx t cs _ (.struct fs) h hu rfl hi hK
theorem Rw.ret1 {fn:Func} {p:Tmp} {ty:TypeId} (h:fn.results = #[.cell p ty]) (tmps:Array Value) {w:World} {g:Nat} {cs:Array Value} (hr:Rw ty w g cs)
 (hp:tmps.getD p undef = .pointer (some ⟨g,0,none⟩)) {fs} (hu:Tryz.prog.underlying ty=some (.struct fs)) (hi:(Tryz.prog.info? ty).map (·.size)=some cs.size) :
 (results fn tmps).run Tryz.prog w = .ok (.agg cs) w:=results_cell_row h tmps w g ty cs _ (.struct fs) hp hr hu rfl hi
theorem Off.grown {R:Nat} {w w':World} (h:Off R w w'):w.grownBy w' (some R):=⟨h.os,h.tape,h.output,Nat.le_of_eq h.size.symm,fun k _ hk=>h.block k fun e=>hk (by rw [e])⟩
def NoW (w:World) (row:Option Nat):Prop:=∀ g,row=some g→∃ cur T,w.heap[g]? = some (.cells cur T (0,0))∧T≠118
theorem Rw.noW {t:TypeId} {w:World} {R:Nat} {cs:Array Value} (h:Rw t w R cs) (ht:t≠118):NoW w (some R):=fun g e=>by cases e;exact ⟨cs,t,h,ht⟩
theorem SL.noW {w:World} {B:Nat} {T:TypeId} {c:Nat} {v:Value} {n:Nat} {E:Nat→List Value} (h:SL w B T c v n E) (ht:T≠118):NoW w v.ownBlock:=by
 intro g e
 obtain ⟨vs,h1,_⟩:=h
 rcases h1.2 with ⟨rfl,_⟩|⟨g',cap,cur,e1,_,f1,_⟩
 ·cases e
 ·subst e1
  simp [Value.ownBlock] at e
  subst e
  exact ⟨cur,T,f1,ht⟩
theorem Got.keep {w w':World} {B:Nat} {v:Value} {x:Int} {S:Nat} (h:Got w B v x S) {row:Option Nat} (hn:NoW w row) (hg:w.grownBy w' row):Got w' B v x S:=by
 obtain ⟨xs,h1,h2⟩:=h
 refine ⟨xs,World.ownsRow.kept h1 hg ?_,h2⟩
 rcases h1.2 with ⟨e1,_⟩|⟨g1,c1,cur1,e1,_,f1,_⟩
 ·subst e1;exact .inl rfl
 ·refine .inr fun e=>?_
  subst e1
  obtain ⟨cur,T,f2,hT⟩:=hn g1 (by rw [← e];rfl)
  rw [f1] at f2
  simp only [Option.some.injEq,Obj.cells.injEq] at f2
  exact hT f2.2.1.symm
theorem GR.keep {w w':World} {B:Nat} {f:Bool} {c:Option Addr} {n k:Nat} {c':Option Addr} {n' k':Nat} {r:Rat} {S:Nat} (h:GR w B f c n k c' n' k' r S) {row:Option Nat} (hn:NoW w row) (hg:w.grownBy w' row):GR w' B f c n k c' n' k' r S:=by
 refine ⟨?_,h.2.keep hn hg,h.3⟩
 obtain ⟨a,n2,c2,h1,h2⟩:=h.1
 exact ⟨a,n2,c2,h1,h2.keep hn hg⟩
theorem Rw.kept {t:TypeId} {w w':World} {R:Nat} {cs:Array Value} (h:Rw t w R cs) {row:Option Nat} (hg:w.grownBy w' row) (hne:row≠some R):Rw t w' R cs:=(hg.block R h.lt (fun e=>hne e.symm)).trans h
theorem SL.neR {w:World} {B:Nat} {T t:TypeId} {c:Nat} {v:Value} {n:Nat} {E:Nat→List Value} (h:SL w B T c v n E) {R:Nat} {cs:Array Value} (hr:Rw t w R cs) (ht:T≠t):v.ownBlock≠some R:=by
 intro e
 obtain ⟨vs,h1,_⟩:=h
 rcases h1.2 with ⟨rfl,_⟩|⟨g',cap,cur,e1,_,f1,_⟩
 ·cases e
 ·subst e1
  simp [Value.ownBlock] at e
  subst e
  unfold Rw at hr
  rw [f1] at hr
  simp only [Option.some.injEq,Obj.cells.injEq] at hr
  exact ht hr.2.1
theorem Near.grown {g:Nat} {a b c:World} (h:Near g a b) {row:Option Nat} (hg:b.grownBy c row) (hr:∀ k,row=some k→a.heap.size≤k):Near g a c :=
 ⟨hg.os.trans h.os,hg.tape.trans h.tape,hg.output.trans h.output,Nat.le_trans h.size hg.size,fun k hk hne=>(hg.block k (Nat.lt_of_lt_of_le hk h.size) (fun e=>by have:=hr k e.symm;omega)).trans (h.block k hk hne)⟩
theorem Near.grow {g:Nat} {a b:World} (h:Near g a b):a.grownBy b (some g):=⟨h.os,h.tape,h.output,h.size,fun k hk hne=>h.block k hk (fun e=>hne (by rw [e]))⟩
theorem Near.box {g:Nat} {a b:World} (h:Near g a b) {R:Nat} {cs:List Value} (hB:BoxC a R cs) (hR:R<a.heap.size) (hne:R≠g):BoxC b R cs:=fun i u hu=>(World.cell?_of_block (w:=a) (h.block R hR hne)).trans (hB i u hu)
theorem Near.rw {g:Nat} {a b:World} (h:Near g a b) {t:TypeId} {R:Nat} {cs:Array Value} (hB:Rw t a R cs) (hne:R≠g):Rw t b R cs:=(h.block R hB.lt hne).trans hB
theorem dM (w:World) {o:Oper} {a:Act} {K:Act→World→Prop} {Q:Exit→Act→World→Prop} (s x:Operand) (L T:TypeId) (c y:Nat)
 (ho:o.op = .call { callee:=.builtin .append,args:=#[s,x],argTypes:=#[L,L] }) (hL:Tryz.prog.underlying L=some (.slice T)) (hI:Inf T c y) (hc0:0<c) (hy:y≤1000)
 (B:Nat) (v:Value) (n:Nat) (E:Nat→List Value) (hs:a.eval s=v) (hown:SL w B T c v n E) (h k:Nat) (hx:a.eval x = .slice (some ⟨h,0,none⟩) 1 k)
 (cs:List Value) (hcs:cs.length=c) (h1:∀ u ∈ cs,u.oneCell'=true) (hbox:BoxC w h cs)
 (hlen:n≤1000000000) (hB:B≤w.heap.size) (H:Nat) (hH:w.heap.size=H)
 (hK:∀ g cap w',SL w' B T c (.slice (some ⟨g,0,none⟩) (n+1) cap) (n+1) (fun i=>if i<n then E i else cs)→w.grownBy w' v.ownBlock→(v.ownBlock=some g∨g=H)→g<w'.heap.size→K (a.put o.dst (.slice (some ⟨g,0,none⟩) (n+1) cap)) w') :
 Oper.wp Tryz.prog o a w K Q:=by
 obtain ⟨vs,g1,g2⟩:=hown
 obtain ⟨i0,z,hi,hz,hs3,hb56,hz3⟩:=hI
 have hyn:(n+1)*y≤1000000001*1000:=Nat.mul_le_mul (by omega) hy
 refine wp_append_lies w s x L ho B T i0 z c y hL hi hz hs3 hb56 hz3 hc0 v n vs hs g1 ⟨h,0,none⟩ 1 k cs hx (by omega) ?_ h1 (by decide) (by unfold maxLen;omega) (by omega) hB H hH ?_
 ·intro j u hj
  have:=hbox j u hj
  by_cases e:j=0
  ·subst e;simpa [Addr.add] using this
  ·simpa [Addr.add,e] using this
 ·intro g cap w' r1 r2 r3 r4
  exact hK g cap w' ⟨_,r1,sl_app g1.1 hcs g2⟩ r2 r3 r4
theorem NG.keep {w w':World} {lo hi:Nat} {l:List Value} {r:Rat} {S:Nat} (h:NG w lo hi l r S) {row:Option Nat} (hn:NoW w row) (hg:w.grownBy w' row):NG w' lo hi l r S:=by
 obtain ⟨p,a,na,ca,d,nd,cd,e,h1,h2⟩:=h
 exact ⟨p,a,na,ca,d,nd,cd,e,h1.keep hn hg,h2⟩
theorem GR.ng {w:World} {B:Nat} {f:Bool} {c:Option Addr} {n k:Nat} {c':Option Addr} {n' k':Nat} {r:Rat} {S:Nat} (h:GR w B f c n k c' n' k' r S):NG w B w.heap.size [.bool f,.slice c n k,.slice c' n' k'] r S :=
 ⟨f,c,n,k,c',n',k',rfl,h,fun g hg=>(h.blk g hg).2⟩
theorem NG.gr {w:World} {lo hi:Nat} {f:Bool} {c:Option Addr} {n k:Nat} {c':Option Addr} {n' k':Nat} {r:Rat} {S:Nat} (h:NG w lo hi [.bool f,.slice c n k,.slice c' n' k'] r S):GR w lo f c n k c' n' k' r S:=by
 obtain ⟨p,a,na,ca,d,nd,cd,e,h1,_⟩:=h
 simp only [List.cons.injEq,Value.bool.injEq,Value.slice.injEq,and_true] at e
 obtain ⟨rfl,⟨rfl,rfl,rfl⟩,rfl,rfl,rfl⟩:=e
 exact h1
def TCA (w:World) (lo hi:Nat) (cs:List Value) (t:PT) (Y:Nat):Prop:=∃ l,cs = .int .i64 t.var::l∧NG w lo hi l t.coef Y
def CTm (w:World) (B C m:Nat) (E:Nat→List Value) (u:Nat→PT) (Yf:Int→Nat):Prop:=∃ lo:Nat→Nat,(∀ q,q<m→lo q≤lo (q+1)∧TCA w (lo q) (lo (q+1)) (E q) (u q) (Yf (u q).var))∧B≤lo 0∧lo m≤C
theorem CTm.nil {w:World} {B C:Nat} (h:B≤C) (E:Nat→List Value) (u:Nat→PT) (Yf:Int→Nat):CTm w B C 0 E u Yf:=⟨fun _=>B,fun q hq=>by omega,Nat.le_refl _,h⟩
theorem CTm.below {w w':World} {B C m:Nat} {E:Nat→List Value} {u:Nat→PT} {Yf:Int→Nat} (h:CTm w B C m E u Yf) (hb:Below w.heap.size w w'):CTm w' B C m E u Yf:=by
 obtain ⟨lo,h1,h2⟩:=h
 refine ⟨lo,fun q hq=>⟨(h1 q hq).1,?_⟩,h2⟩
 obtain ⟨l,e,g⟩:=(h1 q hq).2
 exact ⟨l,e,g.below hb⟩
theorem CTm.keep {w w':World} {B C m:Nat} {E:Nat→List Value} {u:Nat→PT} {Yf:Int→Nat} (h:CTm w B C m E u Yf) {row:Option Nat} (hn:NoW w row) (hg:w.grownBy w' row):CTm w' B C m E u Yf:=by
 obtain ⟨lo,h1,h2⟩:=h
 refine ⟨lo,fun q hq=>⟨(h1 q hq).1,?_⟩,h2⟩
 obtain ⟨l,e,g⟩:=(h1 q hq).2
 exact ⟨l,e,g.keep hn hg⟩
theorem CTm.up {w:World} {B C C' m:Nat} {E:Nat→List Value} {u:Nat→PT} {Yf:Int→Nat} (h:CTm w B C m E u Yf) (hC:C≤C'):CTm w B C' m E u Yf:=by
 obtain ⟨lo,h1,h2,h3⟩:=h
 exact ⟨lo,h1,h2,Nat.le_trans h3 hC⟩
theorem CTm.down {w:World} {B B' C m:Nat} {E:Nat→List Value} {u:Nat→PT} {Yf:Int→Nat} (h:CTm w B C m E u Yf) (hB:B'≤B):CTm w B' C m E u Yf:=by
 obtain ⟨lo,h1,h2,h3⟩:=h
 exact ⟨lo,h1,Nat.le_trans hB h2,h3⟩
theorem CTm.snoc {w:World} {B C C' D m:Nat} {E:Nat→List Value} {u:Nat→PT} {Yf:Int→Nat} (h:CTm w B C m E u Yf) (hC:C≤C') (hD:C'≤D) {cs:List Value} {t:PT} (ht:TCA w C' D cs t (Yf t.var)):CTm w B D (m+1) (fun i=>if i<m then E i else cs) (fun q=>if q<m then u q else t) Yf:=by
 obtain ⟨lo,h1,h2,h3⟩:=h
 have L0:=RA.le0 (fun i hi=>(h1 i hi).1)
 refine ⟨fun i=>if i<m then lo i else if i=m then C' else D,fun q hq=>?_,?_,?_⟩
 ·rcases (by omega:q<m∨q=m) with hq'|rfl
  ·obtain ⟨k0,l,e,g⟩:=h1 q hq'
   simp only [hq',if_true]
   have hle:lo (q+1)≤(if q+1<m then lo (q+1) else if q+1=m then C' else D):=by
    by_cases h7:q+1<m
    ·rw [if_pos h7];exact Nat.le_refl _
    ·have h8:q+1=m:=by omega
     rw [if_neg h7,if_pos h8,h8];omega
   exact ⟨Nat.le_trans k0 hle,l,e,g.up hle⟩
  ·have e1:¬ q+1<q:=by omega
   have e2:¬ q+1=q:=by omega
   simp only [Nat.lt_irrefl,if_false,if_true,e1,e2]
   exact ⟨hD,ht⟩
 ·by_cases h7:0<m
  ·simp only [h7,if_true];exact h2
  ·obtain rfl:m=0:=by omega
   simp only [Nat.lt_irrefl,if_false,if_true];omega
 ·have e1:¬ m+1<m:=by omega
  have e2:¬ m+1=m:=by omega
  simp only [e1,e2,if_false];exact Nat.le_refl _
def TLA (w:World) (a b:Nat) (v:Value) (m:Nat) (u:Nat→PT) (Yf:Int→Nat):Prop:=∃ E,SL w a 52 4 v m E∧CTm w a b m E u Yf∧∀ g,v.ownBlock=some g→g<b
theorem TLA.below {w w':World} {a b:Nat} {v:Value} {m:Nat} {u:Nat→PT} {Yf:Int→Nat} (h:TLA w a b v m u Yf) (hb:Below w.heap.size w w'):TLA w' a b v m u Yf:=by
 obtain ⟨E,h1,h2,h3⟩:=h
 exact ⟨E,h1.below hb,h2.below hb,h3⟩
theorem TLA.keep {w w':World} {a b:Nat} {v:Value} {m:Nat} {u:Nat→PT} {Yf:Int→Nat} (h:TLA w a b v m u Yf) {row:Option Nat} (hn:NoW w row) (hne:∀ g,v.ownBlock=some g→row≠some g) (hg:w.grownBy w' row):TLA w' a b v m u Yf:=by
 obtain ⟨E,h1,h2,h3⟩:=h
 exact ⟨E,h1.kept hg hne,h2.keep hn hg,h3⟩
theorem TLA.form {w:World} {a b:Nat} {v:Value} {m:Nat} {u:Nat→PT} {Yf:Int→Nat} (h:TLA w a b v m u Yf):∃ a' cap,v = .slice a' m cap∧m≤cap:=by
 obtain ⟨E,h1,_⟩:=h
 exact h1.form
end Go.Proofs.YtmeimjakdheidaaGreatDoor
