import Derived.Test.YtklhilnobgieaaaGreatDoorLentAll
import Derived.Test.YtklhilnobgieaaaGreatDoorRefAll
import Derived.Test.YtklhilnobgieaaaGreatDoorPrDAll
import Derived.Test.YtklhilnobgieaaaGreatDoorPqGAll
namespace Go.Proofs.YtklhilnobgieaaaGreatDoor
open Go.RowKit
theorem lnatG (w:World) (r gf cf gw cw n:Nat) (fs ws:List Int) (h:Lnt w r gf cf gw cw n fs ws) :
  Calls Tryz.prog 30 #[.pointer (some ⟨r,0,none⟩)] w fun e w'=>e = .returned (.slice (some ⟨gf,0,none⟩) n cf)∧Below w.heap.size w w':=by
 refine (lnat_any w r gf cf gw cw n fs ws h).mono ?_
 rintro e w' ⟨rfl,m,rfl⟩
 exact ⟨rfl,belN (Below.refl _ _) m⟩
/-! ### half limbs as numbers -/
theorem infPtr1:Inf 81 1 8:=inf_of (by kernel_rfl)
theorem infBool:Inf 4 1 1:=inf_of (by kernel_rfl)
theorem infRat:Inf 27 3 56:=inf_of (by kernel_rfl)
structure Fr where
 p:Bool
 xs:List Int
 ys:List Int
def F3 (w:World) (b o:Nat) (f:Fr):Prop :=
 ∃ a ca d cd,w.cell? ⟨b,o,none⟩ = some (.bool f.p)∧w.cell? ⟨b,o + 1,none⟩ = some (.slice a f.xs.length ca)∧w.cell? ⟨b,o + 2,none⟩ = some (.slice d f.ys.length cd)∧f.xs.length≤ca∧f.ys.length≤cd∧Reads w a f.xs∧Reads w d f.ys
def LF (w:World) (a:Option Addr) (n:Nat) (F:Nat→Fr):Prop:=n = 0∨∃ b o,a = some ⟨b,o,none⟩∧∀ i,i < n→F3 w b (o + i * 3) (F i)
theorem Reads.below' {w w':World} {a:Option Addr} {xs:List Int} (h:Reads w a xs) (hb:Below w.heap.size w w'):Reads w' a xs:=by
 rcases h with h | ⟨b,o,e,h⟩
 ·exact .inl h
 ·exact .inr ⟨b,o,e,fun i hi=>kept_c hb (h i hi)⟩
theorem F3.below {w w':World} {b o:Nat} {f:Fr} (h:F3 w b o f) (hb:Below w.heap.size w w'):F3 w' b o f:=by
 obtain ⟨a,ca,d,cd,h1,h2,h3,h4,h5,h6,h7⟩:=h
 exact ⟨a,ca,d,cd,kept_c hb h1,kept_c hb h2,kept_c hb h3,h4,h5,h6.below' hb,h7.below' hb⟩
theorem LF.below {w w':World} {a:Option Addr} {n:Nat} {F:Nat→Fr} (h:LF w a n F) (hb:Below w.heap.size w w'):LF w' a n F:=by
 rcases h with h | ⟨b,o,e,h⟩
 ·exact .inl h
 ·exact .inr ⟨b,o,e,fun i hi=>(h i hi).below hb⟩
structure Bk where
 rn:Nat
 gf:Nat
 cf:Nat
 gw:Nat
 cw:Nat
 rd:Nat
 hf:Nat
 cg:Nat
 hw:Nat
 ch:Nat
theorem Lnt.kept {w w':World} {r gf cf gw cw n:Nat} {fs ws:List Int} (h:Lnt w r gf cf gw cw n fs ws) (h1:w'.heap[r]? = w.heap[r]?) (h2:w'.heap[gf]? = w.heap[gf]?) (h3:w'.heap[gw]? = w.heap[gw]?) (hs:w.heap.size≤w'.heap.size):Lnt w' r gf cf gw cw n fs ws:=by
 refine ⟨(World.cell?_of_block (w:=w) h1).trans h.c0,(World.cell?_of_block (w:=w) h1).trans h.c1,(World.cell?_of_block (w:=w) h1).trans h.c2,?_,?_,h.ne,h.lf,h.lw,h.le,by have:=h.lr;omega,h.eq⟩
 ·obtain ⟨cur,k1,k2⟩:=h.rf
  exact ⟨cur,h2.trans k1,k2⟩
 ·obtain ⟨cur,k1,k2⟩:=h.rw
  exact ⟨cur,h3.trans k1,k2⟩
structure LJ (w:World) (R n ka kn kd kg km:Nat) (F:Nat→Fr) (A:Nat→Bk) (va vn vd vg:Value):Prop where
 row:Rw 80 w R #[va,vn,vd,vg,.int .i64 n]
 sa:SL w (R + 1) 27 3 va ka (fun i=>if i < km then [.bool (F i).p,.slice (some ⟨(A i).gf,0,none⟩) (F i).xs.length (A i).cf,.slice (some ⟨(A i).hf,0,none⟩) (F i).ys.length (A i).cg] else [.bool true,.slice none 0 0,.slice none 0 0])
 sn:SL w (R + 1) 81 1 vn kn (fun i=>[.pointer (some ⟨(A i).rn,0,none⟩)])
 sd:SL w (R + 1) 81 1 vd kd (fun i=>[.pointer (some ⟨(A i).rd,0,none⟩)])
 sg:SL w (R + 1) 4 1 vg kg (fun i=>[.bool (F i).p])
 ln:∀ i,i < km→Lnt w (A i).rn (A i).gf (A i).cf (A i).gw (A i).cw (F i).xs.length (lendL (F i).xs) (lendL (F i).xs)
 ld:∀ i,i < km→Lnt w (A i).rd (A i).hf (A i).cg (A i).hw (A i).ch (F i).ys.length (lendL (F i).ys) (lendL (F i).ys)
 up:∀ i,i < km→R < (A i).rn∧R < (A i).rd∧(A i).rn ≠ (A i).rd
 za:ka = 0→va = .slice none 0 0
 zn:kn = 0→vn = .slice none 0 0
 zd:kd = 0→vd = .slice none 0 0
 zg:kg = 0→vg = .slice none 0 0
 mn:kn≤km∧kd≤km
theorem LJ.below {w w':World} {R n ka kn kd kg km:Nat} {F:Nat→Fr} {A:Nat→Bk} {va vn vd vg:Value} (h:LJ w R n ka kn kd kg km F A va vn vd vg) (hb:Below w.heap.size w w'):LJ w' R n ka kn kd kg km F A va vn vd vg :=
 ⟨h.row.below hb,h.sa.below hb,h.sn.below hb,h.sd.below hb,h.sg.below hb,fun i hi=>(h.ln i hi).below hb,fun i hi=>(h.ld i hi).below hb,h.up,h.za,h.zn,h.zd,h.zg,h.mn⟩
theorem SL.first {w:World} {B:Nat} {T:TypeId} {c:Nat} {v:Value} {n:Nat} {E:Nat→List Value} (h:SL w B T c v n E) (hz:n = 0→v = .slice none 0 0) {g:Nat} (hg:v.ownBlock = some g) {u:Value} (hu:(E 0)[0]? = some u):w.cell? ⟨g,0,none⟩ = some u:=by
 rcases Nat.eq_zero_or_pos n with e | e
 ·rw [hz e] at hg;cases hg
 ·obtain ⟨a,cap,rfl,_⟩:=h.form
  rcases h.cell with h0 | ⟨g',e1,hc⟩
  ·omega
  ·subst e1
   simp [Value.ownBlock] at hg
   subst hg
   have:=hc 0 e 0 u hu
   simpa using this
theorem Lnt.ne_row {w:World} {r gf cf gw cw n:Nat} {fs ws:List Int} (h:Lnt w r gf cf gw cw n fs ws) {B:Nat} {T:TypeId} {c:Nat} {v:Value} {k:Nat} {E:Nat→List Value} (hl:SL w B T c v k E) (hz:k = 0→v = .slice none 0 0) (hT:T ≠ 59) {u:Value} (hu:(E 0)[0]? = some u) (hs:∀ a b d,u ≠ .slice a b d):some r ≠ v.ownBlock∧some gf ≠ v.ownBlock∧some gw ≠ v.ownBlock:=by
 have hn:=hl.noW hT
 refine ⟨fun e=>?_,fun e=>?_,fun e=>?_⟩
 ·have h1:=hl.first hz e.symm hu
  rw [h.c0] at h1
  exact hs _ _ _ (Option.some.inj h1).symm
 ·obtain ⟨cur,k1,_⟩:=h.rf
  obtain ⟨cur',T',k2,hT'⟩:=hn gf e.symm
  rw [k1] at k2
  simp only [Option.some.injEq,Obj.cells.injEq] at k2
  exact hT' k2.2.1.symm
 ·obtain ⟨cur,k1,_⟩:=h.rw
  obtain ⟨cur',T',k2,hT'⟩:=hn gw e.symm
  rw [k1] at k2
  simp only [Option.some.injEq,Obj.cells.injEq] at k2
  exact hT' k2.2.1.symm
theorem Lnt.lg {w:World} {r gf cf gw cw n:Nat} {fs ws:List Int} (h:Lnt w r gf cf gw cw n fs ws):gf < w.heap.size∧gw < w.heap.size:=by
 obtain ⟨cur,k1,_⟩:=h.rf
 obtain ⟨cur',k2,_⟩:=h.rw
 exact ⟨(Array.getElem?_eq_some_iff.1 k1).1,(Array.getElem?_eq_some_iff.1 k2).1⟩
theorem Lnt.step {w w1 w2:World} {r gf cf gw cw n:Nat} {fs ws:List Int} (h:Lnt w r gf cf gw cw n fs ws) (hb:Below w.heap.size w w1) {B:Nat} {T:TypeId} {c:Nat} {v:Value} {k:Nat} {E:Nat→List Value} (hl:SL w B T c v k E) (hz:k = 0→v = .slice none 0 0) (hT:T ≠ 59) {u:Value} (hu:(E 0)[0]? = some u) (hs:∀ a b d,u ≠ .slice a b d) (hg:w1.grownBy w2 v.ownBlock) {R:Nat} (hR:R < r) (i:Nat) (x:Value):Lnt (w2.setCell ⟨R,i,none⟩ x) r gf cf gw cw n fs ws:=by
 obtain ⟨n1,n2,n3⟩:=h.ne_row hl hz hT hu hs
 have h1:=h.below hb
 have l:=h1.lg
 have O:Off R w2 (w2.setCell ⟨R,i,none⟩ x):=(Off.refl R w2).set i x
 have lf:=h.lf
 have lw:=h.lw
 refine h1.kept ((O.block r (by omega)).trans (hg.block r h1.lr n1)) ((O.block gf (by omega)).trans (hg.block gf l.1 n2)) ((O.block gw (by omega)).trans (hg.block gw l.2 n3)) ?_
 rw [O.size]
 exact hg.size
theorem SL.step {w w1 w2:World} {B:Nat} {T:TypeId} {c:Nat} {v:Value} {n:Nat} {E:Nat→List Value} (h:SL w B T c v n E) (hb:Below w.heap.size w w1) {row:Option Nat} (hg:w1.grownBy w2 row) (hne:∀ g,v.ownBlock = some g→row ≠ some g) {R:Nat} (hR:R < B) (i:Nat) (x:Value):SL (w2.setCell ⟨R,i,none⟩ x) B T c v n E:=by
 have O:Off R w2 (w2.setCell ⟨R,i,none⟩ x):=(Off.refl R w2).set i x
 exact ((h.below hb).kept hg hne).kept O.grown (fun g e e2=>by cases e2;have:=(h.lt _ e).1;omega)
theorem SL.setR {w:World} {B:Nat} {T:TypeId} {c:Nat} {v:Value} {n:Nat} {E:Nat→List Value} (h:SL w B T c v n E) {R:Nat} (hR:R < B) (i:Nat) (x:Value):SL (w.setCell ⟨R,i,none⟩ x) B T c v n E:=by
 have O:Off R w (w.setCell ⟨R,i,none⟩ x):=(Off.refl R w).set i x
 exact h.kept O.grown (fun g e e2=>by cases e2;have:=(h.lt _ e).1;omega)
theorem SL.neT {w:World} {B B':Nat} {T U:TypeId} {c d:Nat} {v u:Value} {n m:Nat} {E E':Nat→List Value} (h:SL w B T c v n E) (k:SL w B' U d u m E') (hT:T ≠ U):∀ g,v.ownBlock = some g→u.ownBlock ≠ some g:=by
 obtain ⟨vs,h1,_⟩:=h
 obtain ⟨us,k1,_⟩:=k
 exact row_neT h1 k1 hT
theorem LJ.nd {w:World} {R n ka kn kd kg km:Nat} {F:Nat→Fr} {A:Nat→Bk} {va vn vd vg:Value} (h:LJ w R n ka kn kd kg km F A va vn vd vg):∀ g,vn.ownBlock = some g→vd.ownBlock ≠ some g:=by
 intro g e1 e2
 have h1:=h.sn.first h.zn e1 (u:=.pointer (some ⟨(A 0).rn,0,none⟩)) rfl
 have h2:=h.sd.first h.zd e2 (u:=.pointer (some ⟨(A 0).rd,0,none⟩)) rfl
 rw [h1] at h2
 simp only [Option.some.injEq,Value.pointer.injEq,Addr.mk.injEq,and_true] at h2
 have hk:0 < km:=by
  rcases Nat.eq_zero_or_pos kn with e | e
  ·rw [h.zn e] at e1;cases e1
  ·have:=h.mn.1;omega
 exact (h.up 0 hk).2.2 h2
theorem LJ.appn {w w1 w2:World} {R n ka kn kd kg km:Nat} {F:Nat→Fr} {A:Nat→Bk} {va vn vd vg:Value} (h:LJ w R n ka kn kd kg km F A va vn vd vg) (hb:Below w.heap.size w w1) (hg:w1.grownBy w2 vn.ownBlock) {g cap:Nat}
  (hS:SL w2 (R + 1) 81 1 (.slice (some ⟨g,0,none⟩) (kn + 1) cap) (kn + 1) (fun i=>if i < kn then [.pointer (some ⟨(A i).rn,0,none⟩)] else [.pointer (some ⟨(A kn).rn,0,none⟩)])) (hk:kn + 1≤km):LJ (w2.setCell ⟨R,1,none⟩ (.slice (some ⟨g,0,none⟩) (kn + 1) cap)) R n ka (kn + 1) kd kg km F A va (.slice (some ⟨g,0,none⟩) (kn + 1) cap) vd vg:=by
 have hr:Rw 80 w2 R #[va,vn,vd,vg,.int .i64 n]:=(h.row.below hb).kept hg (fun e=>by have:=(h.sn.lt R e).1;omega)
 have hr2:=(hr.set 1 (.slice (some ⟨g,0,none⟩) (kn + 1) cap)).1
 refine ⟨by simpa using hr2,h.sa.step hb hg (fun g e=>h.sa.neT h.sn (by decide) g e) (by omega) _ _,(hS.congr (fun i hi=>?_)).setR (by omega) _ _,h.sd.step hb hg (fun g e e2=>h.nd g e2 e) (by omega) _ _,h.sg.step hb hg (fun g e=>h.sg.neT h.sn (by decide) g e) (by omega) _ _,fun i hi=>(h.ln i hi).step hb h.sn h.zn (by decide) rfl (fun _ _ _ e=>by cases e) hg (h.up i hi).1 _ _,fun i hi=>(h.ld i hi).step hb h.sn h.zn (by decide) rfl (fun _ _ _ e=>by cases e) hg (h.up i hi).2.1 _ _,h.up,h.za,fun e=>by omega,h.zd,h.zg,hk,h.mn.2⟩
 split
 ·rfl
 ·obtain rfl:i = kn:=by omega
  rfl
theorem LJ.appd {w w1 w2:World} {R n ka kn kd kg km:Nat} {F:Nat→Fr} {A:Nat→Bk} {va vn vd vg:Value} (h:LJ w R n ka kn kd kg km F A va vn vd vg) (hb:Below w.heap.size w w1) (hg:w1.grownBy w2 vd.ownBlock) {g cap:Nat}
  (hS:SL w2 (R + 1) 81 1 (.slice (some ⟨g,0,none⟩) (kd + 1) cap) (kd + 1) (fun i=>if i < kd then [.pointer (some ⟨(A i).rd,0,none⟩)] else [.pointer (some ⟨(A kd).rd,0,none⟩)])) (hk:kd + 1≤km):LJ (w2.setCell ⟨R,2,none⟩ (.slice (some ⟨g,0,none⟩) (kd + 1) cap)) R n ka kn (kd + 1) kg km F A va vn (.slice (some ⟨g,0,none⟩) (kd + 1) cap) vg:=by
 have hr:Rw 80 w2 R #[va,vn,vd,vg,.int .i64 n]:=(h.row.below hb).kept hg (fun e=>by have:=(h.sd.lt R e).1;omega)
 have hr2:=(hr.set 2 (.slice (some ⟨g,0,none⟩) (kd + 1) cap)).1
 refine ⟨by simpa using hr2,h.sa.step hb hg (fun g e=>h.sa.neT h.sd (by decide) g e) (by omega) _ _,h.sn.step hb hg (fun g e=>h.nd g e) (by omega) _ _,(hS.congr (fun i hi=>?_)).setR (by omega) _ _,h.sg.step hb hg (fun g e=>h.sg.neT h.sd (by decide) g e) (by omega) _ _,fun i hi=>(h.ln i hi).step hb h.sd h.zd (by decide) rfl (fun _ _ _ e=>by cases e) hg (h.up i hi).1 _ _,fun i hi=>(h.ld i hi).step hb h.sd h.zd (by decide) rfl (fun _ _ _ e=>by cases e) hg (h.up i hi).2.1 _ _,h.up,h.za,h.zn,fun e=>by omega,h.zg,h.mn.1,hk⟩
 split
 ·rfl
 ·obtain rfl:i = kd:=by omega
  rfl
theorem LJ.appg {w w1 w2:World} {R n ka kn kd kg km:Nat} {F:Nat→Fr} {A:Nat→Bk} {va vn vd vg:Value} (h:LJ w R n ka kn kd kg km F A va vn vd vg) (hb:Below w.heap.size w w1) (hg:w1.grownBy w2 vg.ownBlock) {g cap:Nat}
  (hS:SL w2 (R + 1) 4 1 (.slice (some ⟨g,0,none⟩) (kg + 1) cap) (kg + 1) (fun i=>if i < kg then [.bool (F i).p] else [.bool (F kg).p])):LJ (w2.setCell ⟨R,3,none⟩ (.slice (some ⟨g,0,none⟩) (kg + 1) cap)) R n ka kn kd (kg + 1) km F A va vn vd (.slice (some ⟨g,0,none⟩) (kg + 1) cap):=by
 have hr:Rw 80 w2 R #[va,vn,vd,vg,.int .i64 n]:=(h.row.below hb).kept hg (fun e=>by have:=(h.sg.lt R e).1;omega)
 have hr2:=(hr.set 3 (.slice (some ⟨g,0,none⟩) (kg + 1) cap)).1
 refine ⟨by simpa using hr2,h.sa.step hb hg (fun g e=>h.sa.neT h.sg (by decide) g e) (by omega) _ _,h.sn.step hb hg (fun g e=>h.sn.neT h.sg (by decide) g e) (by omega) _ _,h.sd.step hb hg (fun g e=>h.sd.neT h.sg (by decide) g e) (by omega) _ _,(hS.congr (fun i hi=>?_)).setR (by omega) _ _,fun i hi=>(h.ln i hi).step hb h.sg h.zg (by decide) rfl (fun _ _ _ e=>by cases e) hg (h.up i hi).1 _ _,fun i hi=>(h.ld i hi).step hb h.sg h.zg (by decide) rfl (fun _ _ _ e=>by cases e) hg (h.up i hi).2.1 _ _,h.up,h.za,h.zn,h.zd,fun e=>by omega,h.mn⟩
 split
 ·rfl
 ·obtain rfl:i = kg:=by omega
  rfl
theorem LJ.appa {w w1 w2:World} {R n ka kn kd kg km:Nat} {F:Nat→Fr} {A:Nat→Bk} {va vn vd vg:Value} (h:LJ w R n ka kn kd kg km F A va vn vd vg) (hb:Below w.heap.size w w1) (hg:w1.grownBy w2 va.ownBlock) {g cap:Nat} {cs:List Value}
  (hS:SL w2 (R + 1) 27 3 (.slice (some ⟨g,0,none⟩) (ka + 1) cap) (ka + 1) (fun i=>if i < ka then (if i < km then [.bool (F i).p,.slice (some ⟨(A i).gf,0,none⟩) (F i).xs.length (A i).cf,.slice (some ⟨(A i).hf,0,none⟩) (F i).ys.length (A i).cg] else [.bool true,.slice none 0 0,.slice none 0 0]) else cs))
  (hcs:cs = if ka < km then [.bool (F ka).p,.slice (some ⟨(A ka).gf,0,none⟩) (F ka).xs.length (A ka).cf,.slice (some ⟨(A ka).hf,0,none⟩) (F ka).ys.length (A ka).cg] else [.bool true,.slice none 0 0,.slice none 0 0]):LJ (w2.setCell ⟨R,0,none⟩ (.slice (some ⟨g,0,none⟩) (ka + 1) cap)) R n (ka + 1) kn kd kg km F A (.slice (some ⟨g,0,none⟩) (ka + 1) cap) vn vd vg:=by
 have hr:Rw 80 w2 R #[va,vn,vd,vg,.int .i64 n]:=(h.row.below hb).kept hg (fun e=>by have:=(h.sa.lt R e).1;omega)
 have hr2:=(hr.set 0 (.slice (some ⟨g,0,none⟩) (ka + 1) cap)).1
 have hu:∃ u,((fun i=>if i < km then [Value.bool (F i).p,.slice (some ⟨(A i).gf,0,none⟩) (F i).xs.length (A i).cf,.slice (some ⟨(A i).hf,0,none⟩) (F i).ys.length (A i).cg] else [.bool true,.slice none 0 0,.slice none 0 0]) 0)[0]? = some (.bool u):=by
  by_cases e:0 < km
  ·exact ⟨(F 0).p,by simp [e]⟩
  ·exact ⟨true,by simp [e]⟩
 obtain ⟨u,hu⟩:=hu
 refine ⟨by simpa using hr2,(hS.congr (fun i hi=>?_)).setR (by omega) _ _,h.sn.step hb hg (fun g e=>h.sn.neT h.sa (by decide) g e) (by omega) _ _,h.sd.step hb hg (fun g e=>h.sd.neT h.sa (by decide) g e) (by omega) _ _,h.sg.step hb hg (fun g e=>h.sg.neT h.sa (by decide) g e) (by omega) _ _,fun i hi=>(h.ln i hi).step hb h.sa h.za (by decide) hu (fun _ _ _ e=>by cases e) hg (h.up i hi).1 _ _,fun i hi=>(h.ld i hi).step hb h.sa h.za (by decide) hu (fun _ _ _ e=>by cases e) hg (h.up i hi).2.1 _ _,h.up,fun e=>by omega,h.zn,h.zd,h.zg,h.mn⟩
 by_cases e:i < ka
 ·rw [if_pos e]
 ·obtain rfl:i = ka:=by omega
  rw [if_neg e,hcs]
theorem LJ.more {w:World} {R n k:Nat} {F:Nat→Fr} {A:Nat→Bk} {va vn vd vg:Value} (h:LJ w R n k k k k k F A va vn vd vg) (b:Bk) (h1:Lnt w b.rn b.gf b.cf b.gw b.cw (F k).xs.length (lendL (F k).xs) (lendL (F k).xs)) (h2:Lnt w b.rd b.hf b.cg b.hw b.ch (F k).ys.length (lendL (F k).ys) (lendL (F k).ys)) (h3:R < b.rn∧R < b.rd∧b.rn ≠ b.rd) :
  LJ w R n k k k k (k + 1) F (fun i=>if i < k then A i else b) va vn vd vg:=by
 have e1:∀ i,i < k→(if i < k then A i else b) = A i:=fun i hi=>if_pos hi
 have e2:(if k < k then A k else b) = b:=if_neg (by omega)
 refine ⟨h.row,h.sa.congr (fun i hi=>?_),h.sn.congr (fun i hi=>?_),h.sd.congr (fun i hi=>?_),h.sg,fun i hi=>?_,fun i hi=>?_,fun i hi=>?_,h.za,h.zn,h.zd,h.zg,by omega,by omega⟩
 ·show (if i < k then _ else _) = (if i < k + 1 then _ else _)
  rw [if_pos hi,if_pos (by omega),e1 i hi]
 ·show _ = [Value.pointer (some ⟨(if i < k then A i else b).rn,0,none⟩)]
  rw [e1 i hi]
 ·show _ = [Value.pointer (some ⟨(if i < k then A i else b).rd,0,none⟩)]
  rw [e1 i hi]
 ·rcases (by omega:i < k∨i = k) with hi' | rfl
  ·show Lnt w (if i < k then A i else b).rn (if i < k then A i else b).gf (if i < k then A i else b).cf (if i < k then A i else b).gw (if i < k then A i else b).cw _ _ _
   rw [e1 i hi'];exact h.ln i hi'
  ·show Lnt w (if i < i then A i else b).rn (if i < i then A i else b).gf (if i < i then A i else b).cf (if i < i then A i else b).gw (if i < i then A i else b).cw _ _ _
   rw [e2];exact h1
 ·rcases (by omega:i < k∨i = k) with hi' | rfl
  ·show Lnt w (if i < k then A i else b).rd (if i < k then A i else b).hf (if i < k then A i else b).cg (if i < k then A i else b).hw (if i < k then A i else b).ch _ _ _
   rw [e1 i hi'];exact h.ld i hi'
  ·show Lnt w (if i < i then A i else b).rd (if i < i then A i else b).hf (if i < i then A i else b).cg (if i < i then A i else b).hw (if i < i then A i else b).ch _ _ _
   rw [e2];exact h2
 ·rcases (by omega:i < k∨i = k) with hi' | rfl
  ·show R < (if i < k then A i else b).rn∧R < (if i < k then A i else b).rd∧(if i < k then A i else b).rn ≠ (if i < k then A i else b).rd
   rw [e1 i hi'];exact h.up i hi'
  ·show R < (if i < i then A i else b).rn∧R < (if i < i then A i else b).rd∧(if i < i then A i else b).rn ≠ (if i < i then A i else b).rd
   rw [e2];exact h3
theorem LJ.start (w:World) (n:Nat) (F:Nat→Fr) (A:Nat→Bk):LJ (w.alloc (.cells #[.slice none 0 0,.slice none 0 0,.slice none 0 0,.slice none 0 0,.int .i64 n] 80)) w.heap.size n 0 0 0 0 0 F A (.slice none 0 0) (.slice none 0 0) (.slice none 0 0) (.slice none 0 0) :=
 ⟨Rw.new _ _ _,SL.nil _ _ _ _ _,SL.nil _ _ _ _ _,SL.nil _ _ _ _ _,SL.nil _ _ _ _ _,fun i hi=>by omega,fun i hi=>by omega,fun i hi=>by omega,fun _=>rfl,fun _=>rfl,fun _=>rfl,fun _=>rfl,by omega,by omega⟩
theorem LJ.size {w:World} {R n ka kn kd kg km:Nat} {F:Nat→Fr} {A:Nat→Bk} {va vn vd vg:Value} (h:LJ w R n ka kn kd kg km F A va vn vd vg):R + 1≤w.heap.size:=h.row.lt
theorem app_bel {w0 w w1 w2:World} {B:Nat} (hB:Below B w0 w) (hb:Below w.heap.size w w1) {row:Option Nat} (hg:w1.grownBy w2 row) (hr:∀ g,row = some g→B≤g) (hs:B≤w.heap.size) {R:Nat} (hR:B≤R) (i:Nat) (x:Value):Below B w0 (w2.setCell ⟨R,i,none⟩ x) :=
 ((hB.trans (hb.mono hs)).trans (grown_below hg (Nat.le_trans hs hb.size) hr)).trans (((Off.refl R w2).set i x).below hR)
set_option maxRecDepth 100000 in
set_option maxHeartbeats 8000000 in
theorem lend3Q (a:Option Addr) (n cap:Nat) (F:Nat→Fr) (w:World) (hL:LF w a n F) (hn:n≤100000000) (hF:∀ i,i < n→(F i).xs.length≤2000000∧(F i).ys.length≤2000000) :
  Calls Tryz.prog 8 #[.slice a n cap] w fun e w'=>∃ A va vn vd vg,e = .returned (.pointer (some ⟨w.heap.size,0,none⟩))∧LJ w' w.heap.size n (n + 3) n n n n F A va vn vd vg∧Below w.heap.size w w':=by
 have J0:=LJ.start w n F (fun _=>⟨0,0,0,0,0,0,0,0,0,0⟩)
 have b0:=bel_d0 w (.cells #[.slice none 0 0,.slice none 0 0,.slice none 0 0,.slice none 0 0,.int .i64 n] 80)
 go_enter Tryz.func8,Tryz.ntmps8
 go_wp2
 generalize w.alloc (.cells #[.slice none 0 0,.slice none 0 0,.slice none 0 0,.slice none 0 0,.int .i64 n] 80) = W at *
 go_loopw [4] (fun s4 wr=>∃ (i:Nat) (A:Nat→Bk) (va vn vd vg:Value),i≤n∧s4 = .int .i64 i∧LJ wr w.heap.size n i i i i i F A va vn vd vg∧Below w.heap.size w wr) (fun s4 _=>n - (intOf s4).toNat)
 case atStart=>exact ⟨0,_,_,_,_,_,Nat.zero_le _,rfl,J0,b0⟩
 case round =>
  clear J0 b0
  obtain ⟨i,A,va,vn,vd,vg,hi,rfl,hJ,hB⟩:=hrel
  have hRs:=hJ.size
  by_cases hlt:i < n
  ·have hkI:(i:Int) < (n:Int):=by omega
   have hkI3:(i:Int) * 3 = ((i * 3:Nat):Int):=by omega
   rcases hL with h0 | ⟨b,o,rfl,hel⟩
   ·omega
   have hbw:b < w.heap.size:=by
    obtain ⟨_,_,_,_,c0,_⟩:=hel i hlt
    exact World.block_lt_of_cell? w _ c0
   obtain ⟨a1,ca,d1,cd,c0,c1,c2,l1,l2,R1,R2⟩:=(hel i hlt).below hB
   obtain ⟨f1,f2⟩:=hF i hlt
   obtain ⟨p,ep⟩:∃ p,p = (F i).p:=⟨_,rfl⟩
   obtain ⟨xs,exs⟩:∃ xs,xs = (F i).xs:=⟨_,rfl⟩
   obtain ⟨ys,eys⟩:∃ ys,ys = (F i).ys:=⟨_,rfl⟩
   rw [← exs] at c1 l1 R1 f1
   rw [← eys] at c2 l2 R2 f2
   rw [← ep] at c0
   have EP:Hid (p = (F i).p∧xs = (F i).xs∧ys = (F i).ys):=⟨ep,exs,eys⟩
   clear ep exs eys hel
   have HL1:=lend_any a1 xs.length ca xs wr rfl l1 (by omega) R1
   go_wp2_with fail
   refine HL1.mono ?_
   clear HL1
   rintro e w1 ⟨gf,cf,gw,cw,rfl,L1,h1⟩
   replace c0:=kept_c h1 c0
   replace c1:=kept_c h1 c1
   replace c2:=kept_c h1 c2
   replace hJ:=hJ.below h1
   replace hB:=bel_tr hB h1
   have HL2:=lend_any d1 ys.length cd ys w1 rfl l2 (by omega) (R2.below' h1)
   clear R1 R2 h1
   go_wp2_with fail
   refine HL2.mono ?_
   clear HL2
   rintro e w2 ⟨hf,cg,hw,ch,rfl,L2,h2⟩
   replace c0:=kept_c h2 c0
   clear c1 c2
   replace hJ:=hJ.below h2
   replace hB:=bel_tr hB h2
   have hl1:=L1.lr
   replace L1:=L1.below h2
   have hl2:=L2.lr
   clear h2
   obtain ⟨r1,er1⟩:∃ r1,r1 = wr.heap.size:=⟨_,rfl⟩
   obtain ⟨r2,er2⟩:∃ r2,r2 = w1.heap.size:=⟨_,rfl⟩
   rw [← er1] at L1 hl1 ⊢
   rw [← er2] at L2 hl2 ⊢
   have J:=hJ.more ⟨r1,gf,cf,gw,cw,r2,hf,cg,hw,ch⟩ (by rw [← EP.out.2.1];exact L1) (by rw [← EP.out.2.2];exact L2) ⟨by show w.heap.size < r1;omega,by show w.heap.size < r2;omega,by show r1 ≠ r2;omega⟩
   obtain ⟨A',eA⟩:∃ A':Nat→Bk,A' = fun j=>if j < i then A j else ⟨r1,gf,cf,gw,cw,r2,hf,cg,hw,ch⟩:=⟨_,rfl⟩
   rw [← eA] at J
   have eAi:A' i = ⟨r1,gf,cf,gw,cw,r2,hf,cg,hw,ch⟩:=by rw [eA];exact if_neg (by omega)
   have EA:Hid (A' i = ⟨r1,gf,cf,gw,cw,r2,hf,cg,hw,ch⟩):=eAi
   have hEa:Hid ((A' i).rn = r1∧(A' i).rd = r2):=⟨by rw [eAi],by rw [eAi]⟩
   clear eA eAi hJ
   have LN:=J.ln i (by omega)
   have LD:=J.ld i (by omega)
   obtain ⟨aa,ac,rfl,_⟩:=J.sa.form
   obtain ⟨na,nc,rfl,_⟩:=J.sn.form
   obtain ⟨da,dc,rfl,_⟩:=J.sd.form
   obtain ⟨ga,gc,rfl,_⟩:=J.sg.form
   have hls:=J.size
   clear er1 er2 hl1 hl2 L1 L2 LN LD hRs
   have k1:=(J.row.cell 1).trans (show _ = some (.slice na i nc) from rfl)
   have HS:=J.sn.below (bel_d0 w2 (.cells #[.pointer (some ⟨r1,0,none⟩)] 81))
   go_wp2_with (at_builtin;refine wpList_appendS _ rfl _ _ 77 81 1 8 rfl Tryz.underlying77 infPtr1 (by decide) (by decide) (w.heap.size + 1) (.slice na i nc) i _ rfl HS w2.heap.size _ rfl [.pointer (some ⟨r1,0,none⟩)] rfl (fun u hu=>by simp at hu;rw [hu];rfl) (box_new w2 #[.pointer (some ⟨r1,0,none⟩)] 81) (by omega) (by simp;omega) (w2.heap.size + 1) (by simp) ?_)
   intro g1 g1c w3 SN hg hat _
   have JN:=J.appn (bel_d0 w2 (.cells #[.pointer (some ⟨r1,0,none⟩)] 81)) hg (by rw [hEa.out.1];exact SN) (by omega)
   have BN:=app_bel hB (bel_d0 w2 (.cells #[.pointer (some ⟨r1,0,none⟩)] 81)) hg (fun k e=>by have:=(J.sn.lt k e).1;omega) (by omega) (Nat.le_refl w.heap.size) 1 (.slice (some ⟨g1,0,none⟩) (i + 1) g1c)
   have cN:(w3.setCell ⟨w.heap.size,1,none⟩ (.slice (some ⟨g1,0,none⟩) (i + 1) g1c)).cell? ⟨b,o + i * 3,none⟩ = some (.bool p):=by
    rw [World.cell?_of_block (w:=w3) (((Off.refl w.heap.size w3).set 1 _).block b (by omega))]
    exact keep_ne hg (kept_c (bel_d0 w2 (.cells #[.pointer (some ⟨r1,0,none⟩)] 81)) c0) (fun e=>by have:=(J.sn.lt b e).1;omega)
   have r3:=(J.row.below (bel_d0 w2 (.cells #[.pointer (some ⟨r1,0,none⟩)] 81))).kept hg (fun e=>by have:=(J.sn.lt w.heap.size e).1;omega)
   have s0:=(r3.cell 1).trans (show _ = some (.slice na i nc) from rfl)
   have s1:=r3.frozen 1
   clear HS SN hg hat J r3 k1 hB c0 hls
   have hls:=JN.size
   have J:=JN
   have hB:=BN
   have c0:=cN
   clear JN BN cN
   have eS:(w3.setCell ⟨w.heap.size,1,none⟩ (.slice (some ⟨g1,0,none⟩) (i + 1) g1c)).heap.size = w3.heap.size:=by simp
   have NB:=box_new (w3.setCell ⟨w.heap.size,1,none⟩ (.slice (some ⟨g1,0,none⟩) (i + 1) g1c)) #[.pointer (some ⟨r2,0,none⟩)] 81
   rw [eS] at NB
   have k2:=(J.row.cell 2).trans (show _ = some (.slice da i dc) from rfl)
   have HS:=J.sd.below (bel_d0 (w3.setCell ⟨w.heap.size,1,none⟩ (.slice (some ⟨g1,0,none⟩) (i + 1) g1c)) (.cells #[.pointer (some ⟨r2,0,none⟩)] 81))
   go_wp2_with (at_builtin;refine wpList_appendS _ rfl _ _ 77 81 1 8 rfl Tryz.underlying77 infPtr1 (by decide) (by decide) (w.heap.size + 1) (.slice da i dc) i _ rfl HS w3.heap.size _ rfl [.pointer (some ⟨r2,0,none⟩)] rfl (fun u hu=>by simp at hu;rw [hu];rfl) NB (by omega) (by simp;omega) (w3.heap.size + 1) (by simp) ?_)
   intro g2 g2c w4 SN hg hat _
   have JN:=J.appd (bel_d0 (w3.setCell ⟨w.heap.size,1,none⟩ (.slice (some ⟨g1,0,none⟩) (i + 1) g1c)) (.cells #[.pointer (some ⟨r2,0,none⟩)] 81)) hg (by rw [hEa.out.2];exact SN) (by omega)
   have BN:=app_bel hB (bel_d0 (w3.setCell ⟨w.heap.size,1,none⟩ (.slice (some ⟨g1,0,none⟩) (i + 1) g1c)) (.cells #[.pointer (some ⟨r2,0,none⟩)] 81)) hg (fun k e=>by have:=(J.sd.lt k e).1;omega) (by omega) (Nat.le_refl w.heap.size) 2 (.slice (some ⟨g2,0,none⟩) (i + 1) g2c)
   have cN:(w4.setCell ⟨w.heap.size,2,none⟩ (.slice (some ⟨g2,0,none⟩) (i + 1) g2c)).cell? ⟨b,o + i * 3,none⟩ = some (.bool p):=by
    rw [World.cell?_of_block (w:=w4) (((Off.refl w.heap.size w4).set 2 _).block b (by omega))]
    exact keep_ne hg (kept_c (bel_d0 (w3.setCell ⟨w.heap.size,1,none⟩ (.slice (some ⟨g1,0,none⟩) (i + 1) g1c)) (.cells #[.pointer (some ⟨r2,0,none⟩)] 81)) c0) (fun e=>by have:=(J.sd.lt b e).1;omega)
   have r3:=(J.row.below (bel_d0 (w3.setCell ⟨w.heap.size,1,none⟩ (.slice (some ⟨g1,0,none⟩) (i + 1) g1c)) (.cells #[.pointer (some ⟨r2,0,none⟩)] 81))).kept hg (fun e=>by have:=(J.sd.lt w.heap.size e).1;omega)
   have s0:=(r3.cell 2).trans (show _ = some (.slice da i dc) from rfl)
   have s1:=r3.frozen 2
   clear HS SN hg hat J r3 k2 hB c0 hls
   have hls:=JN.size
   have J:=JN
   have hB:=BN
   have c0:=cN
   clear JN BN cN
   go_wp2_with fail
   generalize w4.setCell ⟨w.heap.size,2,none⟩ (.slice (some ⟨g2,0,none⟩) (i + 1) g2c) = w5 at *
   clear s0 s1
   have k3:=(J.row.cell 3).trans (show _ = some (.slice ga i gc) from rfl)
   have HBX:∀ w',Below w5.heap.size w5 w'→(w'.cell? ⟨w.heap.size,3,none⟩ = some (.slice ga i gc)∧w'.cell? ⟨b,o + i * 3,none⟩ = some (.bool p)):=fun w' h=>⟨kept_c h k3,kept_c h c0⟩
   refine wp_region_noPanic (wp_region_guardT 13 HBX (by as_aux_lemma=>kernel_rfl) ?_)
   have hc0:Below w5.heap.size w5 w5.drew:=bel_d1 _
   generalize w5.drew = z0 at *
   refine wpAnyG.tT 0 (v:=.pointer (some ⟨w.heap.size,0,none⟩)) (by decide) 13 (by as_aux_lemma=>kernel_rfl) (by rfl) ?y0 (HBX _ hc0) ?_
   case y0 =>
    rintro w' ⟨q0,q1⟩
    simp only [lgA,lgZ]
    go_simp
   simp only [lgA,lgZ,Act.put,lsA,lsZ,lsS]
   refine wpAnyG.tT 1 (v:=.pointer (some ⟨w.heap.size,0,none⟩)) (by decide) 13 (by as_aux_lemma=>kernel_rfl) (by rfl) ?y1 (HBX _ hc0) ?_
   case y1 =>
    rintro w' ⟨q0,q1⟩
    simp only [lgA,lgZ,lgS]
    go_simp
   simp only [lgA,lgZ,lgS,Act.put,lsA,lsZ,lsS]
   refine wpAnyG.tT 2 (v:=.pointer (some ⟨w.heap.size,0,none⟩)) (by decide) 13 (by as_aux_lemma=>kernel_rfl) (by rfl) ?y2 (HBX _ hc0) ?_
   case y2 =>
    rintro w' ⟨q0,q1⟩
    simp only [lgA,lgZ,lgS]
    go_simp
   simp only [lgA,lgZ,lgS,Act.put,lsA,lsZ,lsS]
   refine wpAnyG.tT 3 (v:=.pointer (some ⟨w.heap.size,3,none⟩)) (by decide) 13 (by as_aux_lemma=>kernel_rfl) (by rfl) ?y3 (HBX _ hc0) ?_
   case y3 =>
    rintro w' ⟨q0,q1⟩
    simp only [lgA,lgZ,lgS]
    go_simp
   simp only [lgA,lgZ,lgS,Act.put,lsA,lsZ,lsS]
   refine wpAnyG.tT 4 (v:=.slice ga i gc) (by decide) 13 (by as_aux_lemma=>kernel_rfl) (by rfl) ?y4 (HBX _ hc0) ?_
   case y4 =>
    rintro w' ⟨q0,q1⟩
    simp only [lgA,lgZ,lgS]
    go_simp
   simp only [lgA,lgZ,lgS,Act.put,lsA,lsZ,lsS]
   refine wpAnyG.tT 5 (v:=.slice (some ⟨b,o,none⟩) n cap) (by decide) 13 (by as_aux_lemma=>kernel_rfl) (by rfl) ?y5 (HBX _ hc0) ?_
   case y5 =>
    rintro w' ⟨q0,q1⟩
    simp only [lgA,lgZ,lgS]
    go_simp
   simp only [lgA,lgZ,lgS,Act.put,lsA,lsZ,lsS]
   refine wpAnyG.tT 6 (v:=.int .i64 (i:Int)) (by decide) 13 (by as_aux_lemma=>kernel_rfl) (by rfl) ?y6 (HBX _ hc0) ?_
   case y6 =>
    rintro w' ⟨q0,q1⟩
    simp only [lgA,lgZ,lgS]
    go_simp
   simp only [lgA,lgZ,lgS,Act.put,lsA,lsZ,lsS]
   refine wpAnyG.tT 7 (v:=.pointer (some ⟨b,o + i * 3,none⟩)) (by decide) 13 (by as_aux_lemma=>kernel_rfl) (by rfl) ?y7 (HBX _ hc0) ?_
   case y7 =>
    rintro w' ⟨q0,q1⟩
    simp only [lgA,lgZ,lgS]
    go_simp
   simp only [lgA,lgZ,lgS,Act.put,lsA,lsZ,lsS]
   refine wpAnyG.tT 8 (v:=.pointer (some ⟨b,o + i * 3,none⟩)) (by decide) 13 (by as_aux_lemma=>kernel_rfl) (by rfl) ?y8 (HBX _ hc0) ?_
   case y8 =>
    rintro w' ⟨q0,q1⟩
    simp only [lgA,lgZ,lgS]
    go_simp
   simp only [lgA,lgZ,lgS,Act.put,lsA,lsZ,lsS]
   refine wpAnyG.tT 9 (v:=.pointer (some ⟨b,o + i * 3,none⟩)) (by decide) 13 (by as_aux_lemma=>kernel_rfl) (by rfl) ?y9 (HBX _ hc0) ?_
   case y9 =>
    rintro w' ⟨q0,q1⟩
    simp only [lgA,lgZ,lgS]
    go_simp
   simp only [lgA,lgZ,lgS,Act.put,lsA,lsZ,lsS]
   refine wpAnyG.tT 10 (v:=.bool p) (by decide) 13 (by as_aux_lemma=>kernel_rfl) (by rfl) ?y10 (HBX _ hc0) ?_
   case y10 =>
    rintro w' ⟨q0,q1⟩
    simp only [lgA,lgZ,lgS]
    go_simp
   simp only [lgA,lgZ,lgS,Act.put,lsA,lsZ,lsS]
   refine wpAnyG.one 11 (by as_aux_lemma=>kernel_rfl) (by decide) (by rfl) (fun K hK=>?_)
   simp only [lgA,lgZ,lgS]
   go_simp
   have hy:Below w5.heap.size w5 (z0.alloc (.cells #[.bool p] 4)):=bel_a hc0
   refine hK _ _ ⟨fun _=>HBX _ hy,fun _=>trivial⟩ ?_
   clear hK K
   refine wpAnyG.one 12 (by as_aux_lemma=>kernel_rfl) (by decide) (by rfl) (fun K hK=>?_)
   simp only [lgA,lgZ,lgS]
   have HS:=J.sg.below hy
   have hz0:=hc0.size
   refine wp_appendS _ _ _ 78 4 1 1 rfl Tryz.underlying78 infBool (by decide) (by decide) (w.heap.size + 1) (.slice ga i gc) i _ rfl HS z0.heap.size _ rfl [.bool p] rfl (fun u hu=>by simp at hu;rw [hu];rfl) (box_new z0 #[.bool p] 4) (by omega) (by simp;omega) (z0.heap.size + 1) (by simp) ?_
   intro g3 g3c w6 SN hg hat _
   have JN:=J.appg hy hg (by rw [← EP.out.1];exact SN)
   have BN:=app_bel hB hy hg (fun k e=>by have:=(J.sg.lt k e).1;omega) (by omega) (Nat.le_refl w.heap.size) 3 (.slice (some ⟨g3,0,none⟩) (i + 1) g3c)
   have r3:=(J.row.below hy).kept hg (fun e=>by have:=(J.sg.lt w.heap.size e).1;omega)
   have s0:=(r3.cell 3).trans (show _ = some (.slice ga i gc) from rfl)
   have s1:=r3.frozen 3
   have c9:=keep_ne hg (kept_c hy c0) (fun e=>by have:=(J.sg.lt b e).1;omega)
   have cN:(w6.setCell ⟨w.heap.size,3,none⟩ (.slice (some ⟨g3,0,none⟩) (i + 1) g3c)).cell? ⟨b,o + i * 3,none⟩ = some (.bool p):=by
    rw [World.cell?_of_block (w:=w6) (((Off.refl w.heap.size w6).set 3 _).block b (by omega))]
    exact c9
   refine hK _ _ ⟨fun _=>⟨s0,c9⟩,fun _=>trivial⟩ ?_
   clear hK K
   refine wpAnyG.one 13 (by as_aux_lemma=>kernel_rfl) (by decide) (by rfl) (fun K hK=>?_)
   simp only [lgA,lgZ,lgS]
   go_simp
   refine hK _ _ ⟨fun h=>absurd h (by decide),fun _=>trivial⟩ ?_
   clear hK K
   refine wpAnyG.one 14 (by as_aux_lemma=>kernel_rfl) (by decide) (by rfl) (fun K hK=>?_)
   simp only [lgA,lgZ,lgS]
   go_simp
   refine hK _ _ ⟨fun h=>absurd h (by decide),fun _=>trivial⟩ ?_
   clear hK K
   refine wpAnyG.one 15 (by as_aux_lemma=>kernel_rfl) (by decide) (by rfl) (fun K hK=>?_)
   simp only [lgA,lgZ,lgS]
   go_simp
   refine hK _ _ ⟨fun h=>absurd h (by decide),fun _=>trivial⟩ ?_
   clear hK K
   refine wpAnyG.done (by as_aux_lemma=>kernel_rfl) (NoPanic.normal ?_)
   clear HBX HS SN hg hat r3 s0 s1 c9 hy hz0 hc0 k3 hls c0 hB J
   have hls:=JN.size
   have J:=JN
   have hB:=BN
   have c0:=cN
   clear JN BN cN
   generalize w6.setCell ⟨w.heap.size,3,none⟩ (.slice (some ⟨g3,0,none⟩) (i + 1) g3c) = w7 at *
   have LN:=J.ln i (by omega)
   have LD:=J.ld i (by omega)
   rw [EA.out] at LN LD
   have HN:=lnatG w7 _ _ _ _ _ _ _ _ LN
   go_wp2_with fail
   refine HN.mono ?_
   rintro e w8 ⟨rfl,h8⟩
   replace J:=J.below h8
   replace hB:=bel_tr hB h8
   replace c0:=kept_c h8 c0
   have HD:=lnatG w8 _ _ _ _ _ _ _ _ (LD.below h8)
   clear HN LN LD h8
   go_wp2_with fail
   refine HD.mono ?_
   rintro e w9 ⟨rfl,h9⟩
   replace J:=J.below h9
   replace hB:=bel_tr hB h9
   replace c0:=kept_c h9 c0
   have hls:=J.size
   clear HD h9
   rw [← EP.out.2.1,← EP.out.2.2]
   go_wp2_with fail
   have k0:=(J.row.cell 0).trans (show _ = some (.slice aa i ac) from rfl)
   have HBX:∀ w',Below w9.heap.size w9 w'→(w'.cell? ⟨w.heap.size,0,none⟩ = some (.slice aa i ac)∧w'.cell? ⟨b,o + i * 3,none⟩ = some (.bool p)):=fun w' h=>⟨kept_c h k0,kept_c h c0⟩
   refine wp_region_noPanic (wp_region_guardT 17 HBX (by as_aux_lemma=>kernel_rfl) ?_)
   have hc0:Below w9.heap.size w9 w9.drew:=bel_d1 _
   generalize w9.drew = z0 at *
   refine wpAnyG.tT 0 (v:=.pointer (some ⟨w.heap.size,0,none⟩)) (by decide) 17 (by as_aux_lemma=>kernel_rfl) (by rfl) ?y0 (HBX _ hc0) ?_
   case y0 =>
    rintro w' ⟨q0,q1⟩
    simp only [lgA,lgZ]
    go_simp
   simp only [lgA,lgZ,Act.put,lsA,lsZ,lsS]
   refine wpAnyG.tT 1 (v:=.pointer (some ⟨w.heap.size,0,none⟩)) (by decide) 17 (by as_aux_lemma=>kernel_rfl) (by rfl) ?y1 (HBX _ hc0) ?_
   case y1 =>
    rintro w' ⟨q0,q1⟩
    simp only [lgA,lgZ,lgS]
    go_simp
   simp only [lgA,lgZ,lgS,Act.put,lsA,lsZ,lsS]
   refine wpAnyG.tT 2 (v:=.pointer (some ⟨w.heap.size,0,none⟩)) (by decide) 17 (by as_aux_lemma=>kernel_rfl) (by rfl) ?y2 (HBX _ hc0) ?_
   case y2 =>
    rintro w' ⟨q0,q1⟩
    simp only [lgA,lgZ,lgS]
    go_simp
   simp only [lgA,lgZ,lgS,Act.put,lsA,lsZ,lsS]
   refine wpAnyG.tT 3 (v:=.pointer (some ⟨w.heap.size,0,none⟩)) (by decide) 17 (by as_aux_lemma=>kernel_rfl) (by rfl) ?y3 (HBX _ hc0) ?_
   case y3 =>
    rintro w' ⟨q0,q1⟩
    simp only [lgA,lgZ,lgS]
    go_simp
   simp only [lgA,lgZ,lgS,Act.put,lsA,lsZ,lsS]
   refine wpAnyG.tT 4 (v:=.slice aa i ac) (by decide) 17 (by as_aux_lemma=>kernel_rfl) (by rfl) ?y4 (HBX _ hc0) ?_
   case y4 =>
    rintro w' ⟨q0,q1⟩
    simp only [lgA,lgZ,lgS]
    go_simp
   simp only [lgA,lgZ,lgS,Act.put,lsA,lsZ,lsS]
   refine wpAnyG.tT 5 (v:=.slice (some ⟨b,o,none⟩) n cap) (by decide) 17 (by as_aux_lemma=>kernel_rfl) (by rfl) ?y5 (HBX _ hc0) ?_
   case y5 =>
    rintro w' ⟨q0,q1⟩
    simp only [lgA,lgZ,lgS]
    go_simp
   simp only [lgA,lgZ,lgS,Act.put,lsA,lsZ,lsS]
   refine wpAnyG.tT 6 (v:=.int .i64 (i:Int)) (by decide) 17 (by as_aux_lemma=>kernel_rfl) (by rfl) ?y6 (HBX _ hc0) ?_
   case y6 =>
    rintro w' ⟨q0,q1⟩
    simp only [lgA,lgZ,lgS]
    go_simp
   simp only [lgA,lgZ,lgS,Act.put,lsA,lsZ,lsS]
   refine wpAnyG.tT 7 (v:=.pointer (some ⟨b,o + i * 3,none⟩)) (by decide) 17 (by as_aux_lemma=>kernel_rfl) (by rfl) ?y7 (HBX _ hc0) ?_
   case y7 =>
    rintro w' ⟨q0,q1⟩
    simp only [lgA,lgZ,lgS]
    go_simp
   simp only [lgA,lgZ,lgS,Act.put,lsA,lsZ,lsS]
   refine wpAnyG.tT 8 (v:=.pointer (some ⟨b,o + i * 3,none⟩)) (by decide) 17 (by as_aux_lemma=>kernel_rfl) (by rfl) ?y8 (HBX _ hc0) ?_
   case y8 =>
    rintro w' ⟨q0,q1⟩
    simp only [lgA,lgZ,lgS]
    go_simp
   simp only [lgA,lgZ,lgS,Act.put,lsA,lsZ,lsS]
   refine wpAnyG.tT 9 (v:=.pointer (some ⟨b,o + i * 3,none⟩)) (by decide) 17 (by as_aux_lemma=>kernel_rfl) (by rfl) ?y9 (HBX _ hc0) ?_
   case y9 =>
    rintro w' ⟨q0,q1⟩
    simp only [lgA,lgZ,lgS]
    go_simp
   simp only [lgA,lgZ,lgS,Act.put,lsA,lsZ,lsS]
   refine wpAnyG.tT 10 (v:=.bool p) (by decide) 17 (by as_aux_lemma=>kernel_rfl) (by rfl) ?y10 (HBX _ hc0) ?_
   case y10 =>
    rintro w' ⟨q0,q1⟩
    simp only [lgA,lgZ,lgS]
    go_simp
   simp only [lgA,lgZ,lgS,Act.put,lsA,lsZ,lsS]
   refine wpAnyG.tT 11 (v:=.slice (some ⟨gf,0,none⟩) xs.length cf) (by decide) 17 (by as_aux_lemma=>kernel_rfl) (by rfl) ?y11 (HBX _ hc0) ?_
   case y11 =>
    rintro w' ⟨q0,q1⟩
    simp only [lgA,lgZ,lgS]
    go_simp
   simp only [lgA,lgZ,lgS,Act.put,lsA,lsZ,lsS]
   refine wpAnyG.tT 12 (v:=.agg #[.bool p,.slice (some ⟨gf,0,none⟩) xs.length cf]) (by decide) 17 (by as_aux_lemma=>kernel_rfl) (by rfl) ?y12 (HBX _ hc0) ?_
   case y12 =>
    rintro w' ⟨q0,q1⟩
    simp only [lgA,lgZ,lgS]
    go_simp
   simp only [lgA,lgZ,lgS,Act.put,lsA,lsZ,lsS]
   refine wpAnyG.tT 13 (v:=.slice (some ⟨hf,0,none⟩) ys.length cg) (by decide) 17 (by as_aux_lemma=>kernel_rfl) (by rfl) ?y13 (HBX _ hc0) ?_
   case y13 =>
    rintro w' ⟨q0,q1⟩
    simp only [lgA,lgZ,lgS]
    go_simp
   simp only [lgA,lgZ,lgS,Act.put,lsA,lsZ,lsS]
   refine wpAnyG.tT 14 (v:=.agg #[.bool p,.slice (some ⟨gf,0,none⟩) xs.length cf,.slice (some ⟨hf,0,none⟩) ys.length cg]) (by decide) 17 (by as_aux_lemma=>kernel_rfl) (by rfl) ?y14 (HBX _ hc0) ?_
   case y14 =>
    rintro w' ⟨q0,q1⟩
    simp only [lgA,lgZ,lgS]
    go_simp
   simp only [lgA,lgZ,lgS,Act.put,lsA,lsZ,lsS]
   refine wpAnyG.one 15 (by as_aux_lemma=>kernel_rfl) (by decide) (by rfl) (fun K hK=>?_)
   simp only [lgA,lgZ,lgS]
   go_simp
   have hy:Below w9.heap.size w9 (z0.alloc (.cells #[.bool p,.slice (some ⟨gf,0,none⟩) xs.length cf,.slice (some ⟨hf,0,none⟩) ys.length cg] 27)):=bel_a hc0
   refine hK _ _ ⟨fun _=>HBX _ hy,fun _=>trivial⟩ ?_
   clear hK K
   refine wpAnyG.one 16 (by as_aux_lemma=>kernel_rfl) (by decide) (by rfl) (fun K hK=>?_)
   simp only [lgA,lgZ,lgS]
   have HS:=J.sa.below hy
   have hz0:=hc0.size
   refine wp_appendS _ _ _ 32 27 3 56 rfl Tryz.underlying32 infRat (by decide) (by decide) (w.heap.size + 1) (.slice aa i ac) i _ rfl HS z0.heap.size _ rfl [.bool p,.slice (some ⟨gf,0,none⟩) xs.length cf,.slice (some ⟨hf,0,none⟩) ys.length cg] rfl (fun u hu=>by simp at hu;rcases hu with rfl | rfl | rfl <;> rfl) (box_new z0 #[.bool p,.slice (some ⟨gf,0,none⟩) xs.length cf,.slice (some ⟨hf,0,none⟩) ys.length cg] 27) (by omega) (by simp;omega) (z0.heap.size + 1) (by simp) ?_
   intro g4 g4c w10 SN hg hat _
   have JN:=J.appa hy hg SN (by rw [if_pos (by omega),EA.out,← EP.out.1,← EP.out.2.1,← EP.out.2.2])
   have BN:=app_bel hB hy hg (fun k e=>by have:=(J.sa.lt k e).1;omega) (by omega) (Nat.le_refl w.heap.size) 0 (.slice (some ⟨g4,0,none⟩) (i + 1) g4c)
   have r3:=(J.row.below hy).kept hg (fun e=>by have:=(J.sa.lt w.heap.size e).1;omega)
   have s0:=(r3.cell 0).trans (show _ = some (.slice aa i ac) from rfl)
   have s1:=r3.frozen 0
   have c9:=keep_ne hg (kept_c hy c0) (fun e=>by have:=(J.sa.lt b e).1;omega)
   have cN:(w10.setCell ⟨w.heap.size,0,none⟩ (.slice (some ⟨g4,0,none⟩) (i + 1) g4c)).cell? ⟨b,o + i * 3,none⟩ = some (.bool p):=by
    rw [World.cell?_of_block (w:=w10) (((Off.refl w.heap.size w10).set 0 _).block b (by omega))]
    exact c9
   refine hK _ _ ⟨fun _=>⟨s0,c9⟩,fun _=>trivial⟩ ?_
   clear hK K
   refine wpAnyG.one 17 (by as_aux_lemma=>kernel_rfl) (by decide) (by rfl) (fun K hK=>?_)
   simp only [lgA,lgZ,lgS]
   go_simp
   refine hK _ _ ⟨fun h=>absurd h (by decide),fun _=>trivial⟩ ?_
   clear hK K
   refine wpAnyG.one 18 (by as_aux_lemma=>kernel_rfl) (by decide) (by rfl) (fun K hK=>?_)
   simp only [lgA,lgZ,lgS]
   go_simp
   refine hK _ _ ⟨fun h=>absurd h (by decide),fun _=>trivial⟩ ?_
   clear hK K
   refine wpAnyG.one 19 (by as_aux_lemma=>kernel_rfl) (by decide) (by rfl) (fun K hK=>?_)
   simp only [lgA,lgZ,lgS]
   go_simp
   refine hK _ _ ⟨fun h=>absurd h (by decide),fun _=>trivial⟩ ?_
   clear hK K
   refine wpAnyG.done (by as_aux_lemma=>kernel_rfl) (NoPanic.normal ?_)
   clear HBX HS SN hg hat r3 s0 s1 c9 hy hz0 hc0 k0 hls c0 hB J
   have hls:=JN.size
   have J:=JN
   have hB:=BN
   have c0:=cN
   clear JN BN cN
   generalize w10.setCell ⟨w.heap.size,0,none⟩ (.slice (some ⟨g4,0,none⟩) (i + 1) g4c) = w11 at *
   go_wp2
   go_roundw
   case rel=>first | exact ⟨i + 1,_,_,_,_,_,by omega,by go_num,J,hB⟩ | ((repeat apply Exists.intro);refine ⟨?_,rfl⟩;exact ⟨i + 1,_,_,_,_,_,by omega,by go_num,J,hB⟩)
   case measure=>simp [intOf];omega
  ·have hkI:¬ (i:Int) < (n:Int):=by omega
   obtain rfl:i = n:=by omega
   clear hkI hlt hi hL hF
   go_wp2
   generalize wr = wA at *
   go_loopw [9] (fun s9 wr=>∃ (j:Nat) (va:Value),j≤3∧s9 = .int .i64 j∧LJ wr w.heap.size i (i + j) i i i i F A va vn vd vg∧Below w.heap.size w wr) (fun s9 _=>3 - (intOf s9).toNat)
   case atStart=>exact ⟨0,va,by omega,rfl,hJ,hB⟩
   case round =>
    clear hJ hB hRs
    obtain ⟨j,va2,hj,rfl,J,hB⟩:=hrel
    have hls:=J.size
    by_cases hlt:j < 3
    ·have hkI:(j:Int) < 3:=by omega
     obtain ⟨aa,ac,rfl,_⟩:=J.sa.form
     have k0:=(J.row.cell 0).trans (show _ = some (.slice aa (i + j) ac) from rfl)
     have HS:=J.sa.below (bel_d0 wr (.cells #[.bool true,.slice none 0 0,.slice none 0 0] 27))
     go_wp2_with (at_builtin;refine wpList_appendS _ rfl _ _ 32 27 3 56 rfl Tryz.underlying32 infRat (by decide) (by decide) (w.heap.size + 1) (.slice aa (i + j) ac) (i + j) _ rfl HS wr.heap.size _ rfl [.bool true,.slice none 0 0,.slice none 0 0] rfl (fun u hu=>by simp at hu;rcases hu with rfl | rfl <;> rfl) (box_new wr #[.bool true,.slice none 0 0,.slice none 0 0] 27) (by omega) (by simp;omega) (wr.heap.size + 1) (by simp) ?_)
     intro g gc w3 SN hg hat _
     have JN:=J.appa (bel_d0 wr (.cells #[.bool true,.slice none 0 0,.slice none 0 0] 27)) hg SN (by rw [if_neg (by omega)])
     have BN:=app_bel hB (bel_d0 wr (.cells #[.bool true,.slice none 0 0,.slice none 0 0] 27)) hg (fun k e=>by have:=(J.sa.lt k e).1;omega) (by omega) (Nat.le_refl w.heap.size) 0 (.slice (some ⟨g,0,none⟩) (i + j + 1) gc)
     have r3:=(J.row.below (bel_d0 wr (.cells #[.bool true,.slice none 0 0,.slice none 0 0] 27))).kept hg (fun e=>by have:=(J.sa.lt w.heap.size e).1;omega)
     have s0:=(r3.cell 0).trans (show _ = some (.slice aa (i + j) ac) from rfl)
     have s1:=r3.frozen 0
     clear HS SN hg hat J r3 k0 hB hls
     go_wp2
     go_roundw
     case rel=>first | exact ⟨j + 1,_,by omega,by go_num,JN,BN⟩ | ((repeat apply Exists.intro);refine ⟨?_,rfl⟩;exact ⟨j + 1,_,by omega,by go_num,JN,BN⟩)
     case measure=>simp [intOf];omega
    ·have hkI:¬ (j:Int) < 3:=by omega
     obtain rfl:j = 3:=by omega
     go_wp2
     go_ret
     exact ⟨rfl,⟨A,va2,vn,vd,vg,J⟩,hB⟩
end Go.Proofs.YtklhilnobgieaaaGreatDoor
