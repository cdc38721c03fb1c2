import Derived.Test.YtdcocflnafcikaaGreatDoorPqBAll
import Derived.Laws.OwnMore
import Derived.Test.YtdcocflnafcikaaGreatDoorWhEAll
import Derived.Deep.RegionHeld3
import Derived.Test.YtdcocflnafcikaaGreatDoorLentAll
import Derived.Test.YtdcocflnafcikaaGreatDoorLentBll
import Derived.Test.YtdcocflnafcikaaGreatDoorPrDAll
namespace Go.Proofs.YtdcocflnafcikaaGreatDoor
open Go.RowKit
theorem oK {P:Program} (w:World) (base:Nat) (t ty e:TypeId) (i:TypeInfo) (size:Nat) (ht:P.underlying t=some (.slice e)) (hi:P.info? e=some i)
 (v:Value) (n:Nat) (xs:List Value) (hown:w.ownsRow base e size v n xs) (c:Nat) :
 (Builtin.append_ #[t,t] ty #[v,.slice none 0 c]).run P w = .ok v w:=by
 rcases hown.2 with ⟨rfl,rfl⟩|⟨g,cap,cur,rfl,_,_,hnc,_⟩
 ·simp [Builtin.append_,run_underlying ht,sizeOf,typeInfo,hi,Builtin.lenOf,Builtin.firstCells]
 ·simp [Builtin.append_,run_underlying ht,sizeOf,typeInfo,hi,Builtin.lenOf,Builtin.firstCells,hnc,storeCells]
theorem nK (w:World) {ops:Array Oper} {rest:List Oper} {o:Oper} {a:Act} {Q:Exit→Act→World→Prop} (hgd:o.guard=none) (s x:Operand)
 (ho:o.op = .call { callee:=.builtin .append,args:=#[s,x],argTypes:=#[43,43] }) (B:Nat) (v:Value) (n:Nat) (xs:List Value) (hs:a.eval s=v) (hown:w.ownsRow B 27 3 v n xs)
 (ya:Option Addr) (m c:Nat) (hx:a.eval x = .slice ya m c) (cs:List Value) (hl:cs.length=m*3) (hsrc:m=0∨∃ ad,ya=some ad∧∀ j u,cs[j]? = some u→w.cell? (ad.add j)=some u) (h1:∀ u ∈ cs,u.oneCell'=true) (hlen:n+m≤1000000000) (hB:B≤w.heap.size)
 (hK:∀ v' w',w'.ownsRow B 27 3 v' (n+m) (xs++cs)→w.grownBy w' v.ownBlock→wpList Tryz.prog ops Q rest (a.put o.dst v') w') :
 wpList Tryz.prog ops Q (o::rest) a w:=by
 obtain ⟨i0,z,hi,hz,hs3,hb56,hz3⟩:=info3
 rcases ya with _|ad
 ·have hm:m=0:=by
   rcases hsrc with h|⟨ad,h,_⟩
   ·exact h
   ·cases h
  subst hm
  have hc:cs=[]:=List.eq_nil_of_length_eq_zero (by simpa using hl)
  subst hc
  have hr:=oK (P:=Tryz.prog) w B 43 o.type 27 i0 3 Tryz.underlying43 hi v n xs hown c
  refine wpList_plain hgd fun K hK'=>?_
  unfold Oper.wp execOp
  simp only [ho,resolve,invoke,builtin,Sem.run_bind,Sem.run_pure,Result.andThen_ok,List.map_toArray,List.map_cons,List.map_nil,hs,hx,hr]
  refine hK' _ _ (hK _ _ ?_ ⟨rfl,rfl,rfl,Nat.le_refl _,fun _ _ _=>rfl⟩)
  rw [List.append_nil]
  exact hown
 ·refine wpList_append_own w hgd s x 43 ho B 27 i0 z 3 56 Tryz.underlying43 hi hz hs3 hb56 hz3 (by decide) v n xs hs hown ad m c cs hx hl ?_ h1 (by unfold maxLen;omega) (by omega) hB (fun v' w' r1 r2 _=>hK v' w' r1 r2)
  rcases hsrc with h|⟨ad',h,hc⟩
  ·subst h
   have hc:cs=[]:=List.eq_nil_of_length_eq_zero (by simpa using hl)
   subst hc
   intro j u hj
   cases hj
  ·cases h
   exact hc
theorem Addr.add_mid' (b o j:Nat):(⟨b,o,none⟩:Addr).add j=⟨b,o+j,none⟩:=by unfold Addr.add;split <;> simp_all
theorem flat_get {c:Nat} {D:Nat→List Value}:∀ (m:Nat),(∀ i,i<m→(D i).length=c)→((List.range m).flatMap D).length=m*c∧∀ i,i<m→∀ j,j<c→((List.range m).flatMap D)[i*c+j]? = (D i)[j]?
 | 0,_=>⟨by simp,fun i hi=>by omega⟩
 | m+1,h=>by
  obtain ⟨h1,h2⟩:=flat_get m (fun i hi=>h i (by omega))
  have e:(List.range (m+1)).flatMap D=(List.range m).flatMap D++D m:=by rw [List.range_succ,List.flatMap_append];simp
  rw [e]
  refine ⟨by rw [List.length_append,h1,h m (by omega),Nat.add_mul,Nat.one_mul],fun i hi j hj=>?_⟩
  by_cases hm:i<m
  ·have h5:(i+1)*c≤m*c:=Nat.mul_le_mul_right c hm
   rw [Nat.add_mul,Nat.one_mul] at h5
   rw [List.getElem?_append_left (by omega)]
   exact h2 i hm j hj
  ·obtain rfl:i=m:=by omega
   rw [List.getElem?_append_right (by omega),h1,Nat.add_sub_cancel_left]
theorem oL (w:World) {ops:Array Oper} {rest:List Oper} {o:Oper} {a:Act} {Q:Exit→Act→World→Prop} (hgd:o.guard=none) (s x:Operand)
 (ho:o.op = .call { callee:=.builtin .append,args:=#[s,x],argTypes:=#[43,43] }) (B:Nat) (v:Value) (n:Nat) (E:Nat→List Value) (hs:a.eval s=v) (hown:SL w B 27 3 v n E)
 (ya:Option Addr) (m c:Nat) (hx:a.eval x = .slice ya m c) (D:Nat→List Value) (hD:∀ i,i<m→(D i).length=3∧∀ u ∈ D i,u.oneCell'=true) (hsrc:m=0∨∃ b o',ya=some ⟨b,o',none⟩∧∀ i,i<m→∀ j u,(D i)[j]? = some u→w.cell? ⟨b,o'+i*3+j,none⟩=some u) (hlen:n+m≤1000000000) (hB:B≤w.heap.size)
 (hK:∀ va' cap w',SL w' B 27 3 (.slice va' (n+m) cap) (n+m) (fun i=>if i<n then E i else D (i-n))→w.grownBy w' v.ownBlock→wpList Tryz.prog ops Q rest (a.put o.dst (.slice va' (n+m) cap)) w') :
 wpList Tryz.prog ops Q (o::rest) a w:=by
 obtain ⟨vs,g1,g2⟩:=hown
 obtain ⟨f1,f2⟩:=flat_get (c:=3) (D:=D) m (fun i hi=>(hD i hi).1)
 refine nK w hgd s x ho B v n vs hs g1 ya m c hx ((List.range m).flatMap D) f1 ?_ (fun u hu=>?_) hlen hB (fun v' w' r1 r2=>?_)
 ·rcases hsrc with h|⟨b,o',e,h⟩
  ·exact .inl h
  ·refine .inr ⟨_,e,fun j u hj=>?_⟩
   have hlt:j<m*3:=by rw [← f1];exact (List.getElem?_eq_some_iff.1 hj).1
   have e1:j=j/3*3+j%3:=by omega
   have h2:=f2 (j/3) (by omega) (j%3) (by omega)
   rw [← e1,hj] at h2
   rw [Addr.add_mid',show o'+j=o'+j/3*3+j%3 by omega]
   exact h (j/3) (by omega) (j%3) u h2.symm
 ·obtain ⟨i,hi,hu⟩:=List.mem_flatMap.1 hu
  exact (hD i (by simpa using hi)).2 u hu
 ·have hS:SL w' B 27 3 v' (n+m) (fun i=>if i<n then E i else D (i-n)):=by
   refine ⟨_,r1,fun i hi j u hu=>?_⟩
   have hl:vs.length=n*3:=g1.1
   by_cases e:i<n
   ·simp only [e,if_true] at hu
    obtain ⟨k1,k2⟩:=g2 i e j u hu
    have hlt:i*3+j<vs.length:=(List.getElem?_eq_some_iff.1 k2).1
    exact ⟨k1,by rw [List.getElem?_append_left hlt];exact k2⟩
   ·simp only [e,if_false] at hu
    have k1:j<3:=by have:=(List.getElem?_eq_some_iff.1 hu).1;rw [(hD (i-n) (by omega)).1] at this;exact this
    refine ⟨k1,?_⟩
    rw [List.getElem?_append_right (by omega),hl,show i*3+j-n*3=(i-n)*3+j by omega,f2 (i-n) (by omega) j k1]
    exact hu
  obtain ⟨va',cap,rfl,_⟩:=hS.form
  exact hK va' cap w' hS r2
theorem wpAnyG.two {P:Program} {ops:Array Oper} {Q:Exit→Act→World→Prop} {md:Region.Mode} {T:Array Bool→World→Prop} (i j:Nat) {f:Nat} {L:Array Bool} {a:Act} {w:World} (hr:Region.ready md ops L=[i,j]) (hi:i<ops.size) (hj:j<ops.size) (wi:Region.wanted ops[i] (yielded ops a.tmps)=true) (wj:Region.wanted ops[j] (yielded ops a.tmps)=true)
 (h1:∀ K:Act→World→Prop,(∀ a' w',T (L.setIfInBounds i true) w'→wpAnyG P md ops Q T f (L.setIfInBounds i true) a' w'→K a' w')→ops[i].wp P a w K Q)
 (h2:∀ K:Act→World→Prop,(∀ a' w',T (L.setIfInBounds j true) w'→wpAnyG P md ops Q T f (L.setIfInBounds j true) a' w'→K a' w')→ops[j].wp P a w K Q):wpAnyG P md ops Q T (f+1) L a w:=by
 refine ⟨fun h0=>(by rw [hr] at h0;cases h0),fun k hk=>?_⟩
 rw [hr] at hk
 rcases (by simpa using hk:k=i∨k=j) with rfl|rfl
 ·unfold wpOp
  rw [Array.getElem?_eq_getElem hi]
  simp only [wi,if_true]
  exact .inl (h1 _ fun a' w' h1 h2=>⟨h1,h2⟩)
 ·unfold wpOp
  rw [Array.getElem?_eq_getElem hj]
  simp only [wj,if_true]
  exact .inl (h2 _ fun a' w' h1 h2=>⟨h1,h2⟩)
theorem lnatG (w:World) (r gf cf gw cw n:Nat) (fs ws:List Int) (h:Lnt w r gf cf gw cw n fs ws) :
 Calls Tryz.prog 41 #[.pointer (some ⟨r,0,none⟩)] w fun e w'=>e = .returned (.slice (some ⟨gf,0,none⟩) n cf)∧Below w.heap.size w w':=by
 refine (lnat_any w r gf cf gw cw n fs ws h).mono ?_
 rintro e w' ⟨rfl,m,rfl⟩
 exact ⟨rfl,dB (Below.refl _ _) m⟩
/-! ### half limbs as numbers -/
theorem infPtr1:Inf 94 1 8:=iG (by kernel_rfl)
theorem infBool:Inf 4 1 1:=iG (by kernel_rfl)
theorem nM:Inf 27 3 56:=iG (by kernel_rfl)
structure Fr where
 p:Bool
 xs:List Int
 ys:List Int
def F3 (w:World) (b o:Nat) (f:Fr):Prop :=
 ∃ a ca d cd,w.cell? ⟨b,o,none⟩=some (.bool f.p)∧w.cell? ⟨b,o+1,none⟩=some (.slice a f.xs.length ca)∧w.cell? ⟨b,o+2,none⟩=some (.slice d f.ys.length cd)∧f.xs.length≤ca∧f.ys.length≤cd∧Reads w a f.xs∧Reads w d f.ys
def LF (w:World) (a:Option Addr) (n:Nat) (F:Nat→Fr):Prop:=n=0∨∃ b o,a=some ⟨b,o,none⟩∧∀ i,i<n→F3 w b (o+i*3) (F i)
theorem Reads.below' {w w':World} {a:Option Addr} {xs:List Int} (h:Reads w a xs) (hb:Below w.heap.size w w'):Reads w' a xs:=by
 rcases h with h|⟨b,o,e,h⟩
 ·exact .inl h
 ·exact .inr ⟨b,o,e,fun i hi=>aB hb (h i hi)⟩
theorem F3.below {w w':World} {b o:Nat} {f:Fr} (h:F3 w b o f) (hb:Below w.heap.size w w'):F3 w' b o f:=by
 obtain ⟨a,ca,d,cd,h1,h2,h3,h4,h5,h6,h7⟩:=h
 exact ⟨a,ca,d,cd,aB hb h1,aB hb h2,aB hb h3,h4,h5,h6.below' hb,h7.below' hb⟩
theorem LF.below {w w':World} {a:Option Addr} {n:Nat} {F:Nat→Fr} (h:LF w a n F) (hb:Below w.heap.size w w'):LF w' a n F:=by
 rcases h with h|⟨b,o,e,h⟩
 ·exact .inl h
 ·exact .inr ⟨b,o,e,fun i hi=>(h i hi).below hb⟩
structure Bk where
 rn:Nat
 gf:Nat
 cf:Nat
 gw:Nat
 cw:Nat
 rd:Nat
 hf:Nat
 cg:Nat
 hw:Nat
 ch:Nat
theorem Lnt.kept {w w':World} {r gf cf gw cw n:Nat} {fs ws:List Int} (h:Lnt w r gf cf gw cw n fs ws) (h1:w'.heap[r]? = w.heap[r]?) (h2:w'.heap[gf]? = w.heap[gf]?) (h3:w'.heap[gw]? = w.heap[gw]?) (hs:w.heap.size≤w'.heap.size):Lnt w' r gf cf gw cw n fs ws:=by
 refine ⟨(World.cell?_of_block (w:=w) h1).trans h.c0,(World.cell?_of_block (w:=w) h1).trans h.c1,(World.cell?_of_block (w:=w) h1).trans h.c2,?_,?_,h.ne,h.lf,h.lw,h.le,by have:=h.lr;omega,h.eq⟩
 ·obtain ⟨cur,k1,k2⟩:=h.rf
  exact ⟨cur,h2.trans k1,k2⟩
 ·obtain ⟨cur,k1,k2⟩:=h.rw
  exact ⟨cur,h3.trans k1,k2⟩
structure LJ (w:World) (R n ka kn kd kg km:Nat) (F:Nat→Fr) (A:Nat→Bk) (va vn vd vg:Value):Prop where
 row:Rw 93 w R #[va,vn,vd,vg,.int .i64 n]
 sa:SL w (R+1) 27 3 va ka (fun i=>if i<km then [.bool (F i).p,.slice (some ⟨(A i).gf,0,none⟩) (F i).xs.length (A i).cf,.slice (some ⟨(A i).hf,0,none⟩) (F i).ys.length (A i).cg] else [.bool true,.slice none 0 0,.slice none 0 0])
 sn:SL w (R+1) 94 1 vn kn (fun i=>[.pointer (some ⟨(A i).rn,0,none⟩)])
 sd:SL w (R+1) 94 1 vd kd (fun i=>[.pointer (some ⟨(A i).rd,0,none⟩)])
 sg:SL w (R+1) 4 1 vg kg (fun i=>[.bool (F i).p])
 ln:∀ i,i<km→Lnt w (A i).rn (A i).gf (A i).cf (A i).gw (A i).cw (F i).xs.length (bQ (F i).xs) (bQ (F i).xs)
 ld:∀ i,i<km→Lnt w (A i).rd (A i).hf (A i).cg (A i).hw (A i).ch (F i).ys.length (bQ (F i).ys) (bQ (F i).ys)
 up:∀ i,i<km→R<(A i).rn∧R<(A i).rd∧(A i).rn≠(A i).rd
 za:ka=0→va = .slice none 0 0
 zn:kn=0→vn = .slice none 0 0
 zd:kd=0→vd = .slice none 0 0
 zg:kg=0→vg = .slice none 0 0
 mn:kn≤km∧kd≤km
 od:∀ i,i<km→R<(A i).gf∧(A i).gf<(A i).hf∧∀ j,i<j→j<km→(A i).hf<(A j).gf
theorem LJ.below {w w':World} {R n ka kn kd kg km:Nat} {F:Nat→Fr} {A:Nat→Bk} {va vn vd vg:Value} (h:LJ w R n ka kn kd kg km F A va vn vd vg) (hb:Below w.heap.size w w'):LJ w' R n ka kn kd kg km F A va vn vd vg :=
 ⟨h.row.below hb,h.sa.below hb,h.sn.below hb,h.sd.below hb,h.sg.below hb,fun i hi=>(h.ln i hi).below hb,fun i hi=>(h.ld i hi).below hb,h.up,h.za,h.zn,h.zd,h.zg,h.mn,h.od⟩
theorem SL.first {w:World} {B:Nat} {T:TypeId} {c:Nat} {v:Value} {n:Nat} {E:Nat→List Value} (h:SL w B T c v n E) (hz:n=0→v = .slice none 0 0) {g:Nat} (hg:v.ownBlock=some g) {u:Value} (hu:(E 0)[0]? = some u):w.cell? ⟨g,0,none⟩=some u:=by
 rcases Nat.eq_zero_or_pos n with e|e
 ·rw [hz e] at hg;cases hg
 ·obtain ⟨a,cap,rfl,_⟩:=h.form
  rcases h.cell with h0|⟨g',e1,hc⟩
  ·omega
  ·subst e1
   simp [Value.ownBlock] at hg
   subst hg
   have:=hc 0 e 0 u hu
   simpa using this
theorem Lnt.ne_row {w:World} {r gf cf gw cw n:Nat} {fs ws:List Int} (h:Lnt w r gf cf gw cw n fs ws) {B:Nat} {T:TypeId} {c:Nat} {v:Value} {k:Nat} {E:Nat→List Value} (hl:SL w B T c v k E) (hz:k=0→v = .slice none 0 0) (hT:T≠63) {u:Value} (hu:(E 0)[0]? = some u) (hs:∀ a b d,u ≠ .slice a b d):some r≠v.ownBlock∧some gf≠v.ownBlock∧some gw≠v.ownBlock:=by
 have hn:=hl.noW hT
 refine ⟨fun e=>?_,fun e=>?_,fun e=>?_⟩
 ·have h1:=hl.first hz e.symm hu
  rw [h.c0] at h1
  exact hs _ _ _ (Option.some.inj h1).symm
 ·obtain ⟨cur,k1,_⟩:=h.rf
  obtain ⟨cur',T',k2,hT'⟩:=hn gf e.symm
  rw [k1] at k2
  simp only [Option.some.injEq,Obj.cells.injEq] at k2
  exact hT' k2.2.1.symm
 ·obtain ⟨cur,k1,_⟩:=h.rw
  obtain ⟨cur',T',k2,hT'⟩:=hn gw e.symm
  rw [k1] at k2
  simp only [Option.some.injEq,Obj.cells.injEq] at k2
  exact hT' k2.2.1.symm
theorem Lnt.lg {w:World} {r gf cf gw cw n:Nat} {fs ws:List Int} (h:Lnt w r gf cf gw cw n fs ws):gf<w.heap.size∧gw<w.heap.size:=by
 obtain ⟨cur,k1,_⟩:=h.rf
 obtain ⟨cur',k2,_⟩:=h.rw
 exact ⟨(Array.getElem?_eq_some_iff.1 k1).1,(Array.getElem?_eq_some_iff.1 k2).1⟩
theorem Lnt.step {w w1 w2:World} {r gf cf gw cw n:Nat} {fs ws:List Int} (h:Lnt w r gf cf gw cw n fs ws) (hb:Below w.heap.size w w1) {B:Nat} {T:TypeId} {c:Nat} {v:Value} {k:Nat} {E:Nat→List Value} (hl:SL w B T c v k E) (hz:k=0→v = .slice none 0 0) (hT:T≠63) {u:Value} (hu:(E 0)[0]? = some u) (hs:∀ a b d,u ≠ .slice a b d) (hg:w1.grownBy w2 v.ownBlock) {R:Nat} (hR:R<r) (i:Nat) (x:Value):Lnt (w2.setCell ⟨R,i,none⟩ x) r gf cf gw cw n fs ws:=by
 obtain ⟨n1,n2,n3⟩:=h.ne_row hl hz hT hu hs
 have h1:=h.below hb
 have l:=h1.lg
 have O:Off R w2 (w2.setCell ⟨R,i,none⟩ x):=(Off.refl R w2).set i x
 have lf:=h.lf
 have lw:=h.lw
 refine h1.kept ((O.block r (by omega)).trans (hg.block r h1.lr n1)) ((O.block gf (by omega)).trans (hg.block gf l.1 n2)) ((O.block gw (by omega)).trans (hg.block gw l.2 n3)) ?_
 rw [O.size]
 exact hg.size
theorem SL.step {w w1 w2:World} {B:Nat} {T:TypeId} {c:Nat} {v:Value} {n:Nat} {E:Nat→List Value} (h:SL w B T c v n E) (hb:Below w.heap.size w w1) {row:Option Nat} (hg:w1.grownBy w2 row) (hne:∀ g,v.ownBlock=some g→row≠some g) {R:Nat} (hR:R<B) (i:Nat) (x:Value):SL (w2.setCell ⟨R,i,none⟩ x) B T c v n E:=by
 have O:Off R w2 (w2.setCell ⟨R,i,none⟩ x):=(Off.refl R w2).set i x
 exact ((h.below hb).kept hg hne).kept O.grown (fun g e e2=>by cases e2;have:=(h.lt _ e).1;omega)
theorem SL.setR {w:World} {B:Nat} {T:TypeId} {c:Nat} {v:Value} {n:Nat} {E:Nat→List Value} (h:SL w B T c v n E) {R:Nat} (hR:R<B) (i:Nat) (x:Value):SL (w.setCell ⟨R,i,none⟩ x) B T c v n E:=by
 have O:Off R w (w.setCell ⟨R,i,none⟩ x):=(Off.refl R w).set i x
 exact h.kept O.grown (fun g e e2=>by cases e2;have:=(h.lt _ e).1;omega)
theorem SL.neT {w:World} {B B':Nat} {T U:TypeId} {c d:Nat} {v u:Value} {n m:Nat} {E E':Nat→List Value} (h:SL w B T c v n E) (k:SL w B' U d u m E') (hT:T≠U):∀ g,v.ownBlock=some g→u.ownBlock≠some g:=by
 obtain ⟨vs,h1,_⟩:=h
 obtain ⟨us,k1,_⟩:=k
 exact zN h1 k1 hT
theorem LJ.nd {w:World} {R n ka kn kd kg km:Nat} {F:Nat→Fr} {A:Nat→Bk} {va vn vd vg:Value} (h:LJ w R n ka kn kd kg km F A va vn vd vg):∀ g,vn.ownBlock=some g→vd.ownBlock≠some g:=by
 intro g e1 e2
 have h1:=h.sn.first h.zn e1 (u:=.pointer (some ⟨(A 0).rn,0,none⟩)) rfl
 have h2:=h.sd.first h.zd e2 (u:=.pointer (some ⟨(A 0).rd,0,none⟩)) rfl
 rw [h1] at h2
 simp only [Option.some.injEq,Value.pointer.injEq,Addr.mk.injEq,and_true] at h2
 have hk:0<km:=by
  rcases Nat.eq_zero_or_pos kn with e|e
  ·rw [h.zn e] at e1;cases e1
  ·have:=h.mn.1;omega
 exact (h.up 0 hk).2.2 h2
theorem LJ.appn {w w1 w2:World} {R n ka kn kd kg km:Nat} {F:Nat→Fr} {A:Nat→Bk} {va vn vd vg:Value} (h:LJ w R n ka kn kd kg km F A va vn vd vg) (hb:Below w.heap.size w w1) (hg:w1.grownBy w2 vn.ownBlock) {g cap:Nat}
 (hS:SL w2 (R+1) 94 1 (.slice (some ⟨g,0,none⟩) (kn+1) cap) (kn+1) (fun i=>if i<kn then [.pointer (some ⟨(A i).rn,0,none⟩)] else [.pointer (some ⟨(A kn).rn,0,none⟩)])) (hk:kn+1≤km):LJ (w2.setCell ⟨R,1,none⟩ (.slice (some ⟨g,0,none⟩) (kn+1) cap)) R n ka (kn+1) kd kg km F A va (.slice (some ⟨g,0,none⟩) (kn+1) cap) vd vg:=by
 have hr:Rw 93 w2 R #[va,vn,vd,vg,.int .i64 n]:=(h.row.below hb).kept hg (fun e=>by have:=(h.sn.lt R e).1;omega)
 have hr2:=(hr.set 1 (.slice (some ⟨g,0,none⟩) (kn+1) cap)).1
 refine ⟨by simpa using hr2,h.sa.step hb hg (fun g e=>h.sa.neT h.sn (by decide) g e) (by omega) _ _,(hS.congr (fun i hi=>?_)).setR (by omega) _ _,h.sd.step hb hg (fun g e e2=>h.nd g e2 e) (by omega) _ _,h.sg.step hb hg (fun g e=>h.sg.neT h.sn (by decide) g e) (by omega) _ _,fun i hi=>(h.ln i hi).step hb h.sn h.zn (by decide) rfl (fun _ _ _ e=>by cases e) hg (h.up i hi).1 _ _,fun i hi=>(h.ld i hi).step hb h.sn h.zn (by decide) rfl (fun _ _ _ e=>by cases e) hg (h.up i hi).2.1 _ _,h.up,h.za,fun e=>by omega,h.zd,h.zg,⟨hk,h.mn.2⟩,h.od⟩
 split
 ·rfl
 ·obtain rfl:i=kn:=by omega
  rfl
theorem LJ.appd {w w1 w2:World} {R n ka kn kd kg km:Nat} {F:Nat→Fr} {A:Nat→Bk} {va vn vd vg:Value} (h:LJ w R n ka kn kd kg km F A va vn vd vg) (hb:Below w.heap.size w w1) (hg:w1.grownBy w2 vd.ownBlock) {g cap:Nat}
 (hS:SL w2 (R+1) 94 1 (.slice (some ⟨g,0,none⟩) (kd+1) cap) (kd+1) (fun i=>if i<kd then [.pointer (some ⟨(A i).rd,0,none⟩)] else [.pointer (some ⟨(A kd).rd,0,none⟩)])) (hk:kd+1≤km):LJ (w2.setCell ⟨R,2,none⟩ (.slice (some ⟨g,0,none⟩) (kd+1) cap)) R n ka kn (kd+1) kg km F A va vn (.slice (some ⟨g,0,none⟩) (kd+1) cap) vg:=by
 have hr:Rw 93 w2 R #[va,vn,vd,vg,.int .i64 n]:=(h.row.below hb).kept hg (fun e=>by have:=(h.sd.lt R e).1;omega)
 have hr2:=(hr.set 2 (.slice (some ⟨g,0,none⟩) (kd+1) cap)).1
 refine ⟨by simpa using hr2,h.sa.step hb hg (fun g e=>h.sa.neT h.sd (by decide) g e) (by omega) _ _,h.sn.step hb hg (fun g e=>h.nd g e) (by omega) _ _,(hS.congr (fun i hi=>?_)).setR (by omega) _ _,h.sg.step hb hg (fun g e=>h.sg.neT h.sd (by decide) g e) (by omega) _ _,fun i hi=>(h.ln i hi).step hb h.sd h.zd (by decide) rfl (fun _ _ _ e=>by cases e) hg (h.up i hi).1 _ _,fun i hi=>(h.ld i hi).step hb h.sd h.zd (by decide) rfl (fun _ _ _ e=>by cases e) hg (h.up i hi).2.1 _ _,h.up,h.za,h.zn,fun e=>by omega,h.zg,⟨h.mn.1,hk⟩,h.od⟩
 split
 ·rfl
 ·obtain rfl:i=kd:=by omega
  rfl
theorem LJ.appg {w w1 w2:World} {R n ka kn kd kg km:Nat} {F:Nat→Fr} {A:Nat→Bk} {va vn vd vg:Value} (h:LJ w R n ka kn kd kg km F A va vn vd vg) (hb:Below w.heap.size w w1) (hg:w1.grownBy w2 vg.ownBlock) {g cap:Nat}
 (hS:SL w2 (R+1) 4 1 (.slice (some ⟨g,0,none⟩) (kg+1) cap) (kg+1) (fun i=>if i<kg then [.bool (F i).p] else [.bool (F kg).p])):LJ (w2.setCell ⟨R,3,none⟩ (.slice (some ⟨g,0,none⟩) (kg+1) cap)) R n ka kn kd (kg+1) km F A va vn vd (.slice (some ⟨g,0,none⟩) (kg+1) cap):=by
 have hr:Rw 93 w2 R #[va,vn,vd,vg,.int .i64 n]:=(h.row.below hb).kept hg (fun e=>by have:=(h.sg.lt R e).1;omega)
 have hr2:=(hr.set 3 (.slice (some ⟨g,0,none⟩) (kg+1) cap)).1
 refine ⟨by simpa using hr2,h.sa.step hb hg (fun g e=>h.sa.neT h.sg (by decide) g e) (by omega) _ _,h.sn.step hb hg (fun g e=>h.sn.neT h.sg (by decide) g e) (by omega) _ _,h.sd.step hb hg (fun g e=>h.sd.neT h.sg (by decide) g e) (by omega) _ _,(hS.congr (fun i hi=>?_)).setR (by omega) _ _,fun i hi=>(h.ln i hi).step hb h.sg h.zg (by decide) rfl (fun _ _ _ e=>by cases e) hg (h.up i hi).1 _ _,fun i hi=>(h.ld i hi).step hb h.sg h.zg (by decide) rfl (fun _ _ _ e=>by cases e) hg (h.up i hi).2.1 _ _,h.up,h.za,h.zn,h.zd,fun e=>by omega,h.mn,h.od⟩
 split
 ·rfl
 ·obtain rfl:i=kg:=by omega
  rfl
theorem LJ.appa {w w1 w2:World} {R n ka kn kd kg km:Nat} {F:Nat→Fr} {A:Nat→Bk} {va vn vd vg:Value} (h:LJ w R n ka kn kd kg km F A va vn vd vg) (hb:Below w.heap.size w w1) (hg:w1.grownBy w2 va.ownBlock) {g cap:Nat} {cs:List Value}
 (hS:SL w2 (R+1) 27 3 (.slice (some ⟨g,0,none⟩) (ka+1) cap) (ka+1) (fun i=>if i<ka then (if i<km then [.bool (F i).p,.slice (some ⟨(A i).gf,0,none⟩) (F i).xs.length (A i).cf,.slice (some ⟨(A i).hf,0,none⟩) (F i).ys.length (A i).cg] else [.bool true,.slice none 0 0,.slice none 0 0]) else cs))
 (hcs:cs=if ka<km then [.bool (F ka).p,.slice (some ⟨(A ka).gf,0,none⟩) (F ka).xs.length (A ka).cf,.slice (some ⟨(A ka).hf,0,none⟩) (F ka).ys.length (A ka).cg] else [.bool true,.slice none 0 0,.slice none 0 0]):LJ (w2.setCell ⟨R,0,none⟩ (.slice (some ⟨g,0,none⟩) (ka+1) cap)) R n (ka+1) kn kd kg km F A (.slice (some ⟨g,0,none⟩) (ka+1) cap) vn vd vg:=by
 have hr:Rw 93 w2 R #[va,vn,vd,vg,.int .i64 n]:=(h.row.below hb).kept hg (fun e=>by have:=(h.sa.lt R e).1;omega)
 have hr2:=(hr.set 0 (.slice (some ⟨g,0,none⟩) (ka+1) cap)).1
 have hu:∃ u,((fun i=>if i<km then [Value.bool (F i).p,.slice (some ⟨(A i).gf,0,none⟩) (F i).xs.length (A i).cf,.slice (some ⟨(A i).hf,0,none⟩) (F i).ys.length (A i).cg] else [.bool true,.slice none 0 0,.slice none 0 0]) 0)[0]? = some (.bool u):=by
  by_cases e:0<km
  ·exact ⟨(F 0).p,by simp [e]⟩
  ·exact ⟨true,by simp [e]⟩
 obtain ⟨u,hu⟩:=hu
 refine ⟨by simpa using hr2,(hS.congr (fun i hi=>?_)).setR (by omega) _ _,h.sn.step hb hg (fun g e=>h.sn.neT h.sa (by decide) g e) (by omega) _ _,h.sd.step hb hg (fun g e=>h.sd.neT h.sa (by decide) g e) (by omega) _ _,h.sg.step hb hg (fun g e=>h.sg.neT h.sa (by decide) g e) (by omega) _ _,fun i hi=>(h.ln i hi).step hb h.sa h.za (by decide) hu (fun _ _ _ e=>by cases e) hg (h.up i hi).1 _ _,fun i hi=>(h.ld i hi).step hb h.sa h.za (by decide) hu (fun _ _ _ e=>by cases e) hg (h.up i hi).2.1 _ _,h.up,fun e=>by omega,h.zn,h.zd,h.zg,h.mn,h.od⟩
 by_cases e:i<ka
 ·rw [if_pos e]
 ·obtain rfl:i=ka:=by omega
  rw [if_neg e,hcs]
theorem LJ.more {w:World} {R n k:Nat} {F:Nat→Fr} {A:Nat→Bk} {va vn vd vg:Value} (h:LJ w R n k k k k k F A va vn vd vg) (b:Bk) (h1:Lnt w b.rn b.gf b.cf b.gw b.cw (F k).xs.length (bQ (F k).xs) (bQ (F k).xs)) (h2:Lnt w b.rd b.hf b.cg b.hw b.ch (F k).ys.length (bQ (F k).ys) (bQ (F k).ys)) (h3:R<b.rn∧R<b.rd∧b.rn≠b.rd) (h4:R<b.gf∧b.gf<b.hf∧∀ i,i<k→(A i).hf<b.gf) :
 LJ w R n k k k k (k+1) F (fun i=>if i<k then A i else b) va vn vd vg:=by
 have e1:∀ i,i<k→(if i<k then A i else b)=A i:=fun i hi=>if_pos hi
 have e2:(if k<k then A k else b)=b:=if_neg (by omega)
 refine ⟨h.row,h.sa.congr (fun i hi=>?_),h.sn.congr (fun i hi=>?_),h.sd.congr (fun i hi=>?_),h.sg,fun i hi=>?_,fun i hi=>?_,fun i hi=>?_,h.za,h.zn,h.zd,h.zg,⟨by omega,by omega⟩,fun i hi=>?_⟩
 ·show (if i<k then _ else _)=(if i<k+1 then _ else _)
  rw [if_pos hi,if_pos (by omega),e1 i hi]
 ·show _=[Value.pointer (some ⟨(if i<k then A i else b).rn,0,none⟩)]
  rw [e1 i hi]
 ·show _=[Value.pointer (some ⟨(if i<k then A i else b).rd,0,none⟩)]
  rw [e1 i hi]
 ·rcases (by omega:i<k∨i=k) with hi'|rfl
  ·show Lnt w (if i<k then A i else b).rn (if i<k then A i else b).gf (if i<k then A i else b).cf (if i<k then A i else b).gw (if i<k then A i else b).cw _ _ _
   rw [e1 i hi'];exact h.ln i hi'
  ·show Lnt w (if i<i then A i else b).rn (if i<i then A i else b).gf (if i<i then A i else b).cf (if i<i then A i else b).gw (if i<i then A i else b).cw _ _ _
   rw [e2];exact h1
 ·rcases (by omega:i<k∨i=k) with hi'|rfl
  ·show Lnt w (if i<k then A i else b).rd (if i<k then A i else b).hf (if i<k then A i else b).cg (if i<k then A i else b).hw (if i<k then A i else b).ch _ _ _
   rw [e1 i hi'];exact h.ld i hi'
  ·show Lnt w (if i<i then A i else b).rd (if i<i then A i else b).hf (if i<i then A i else b).cg (if i<i then A i else b).hw (if i<i then A i else b).ch _ _ _
   rw [e2];exact h2
 ·rcases (by omega:i<k∨i=k) with hi'|rfl
  ·show R<(if i<k then A i else b).rn∧R<(if i<k then A i else b).rd∧(if i<k then A i else b).rn≠(if i<k then A i else b).rd
   rw [e1 i hi'];exact h.up i hi'
  ·show R<(if i<i then A i else b).rn∧R<(if i<i then A i else b).rd∧(if i<i then A i else b).rn≠(if i<i then A i else b).rd
   rw [e2];exact h3
 ·show R<(if i<k then A i else b).gf∧(if i<k then A i else b).gf<(if i<k then A i else b).hf∧∀ j,i<j→j<k+1→(if i<k then A i else b).hf<(if j<k then A j else b).gf
  rcases (by omega:i<k∨i=k) with hi'|rfl
  ·rw [e1 i hi']
   refine ⟨(h.od i hi').1,(h.od i hi').2.1,fun j hj hk=>?_⟩
   rcases (by omega:j<k∨j=k) with hj'|rfl
   ·rw [e1 j hj'];exact (h.od i hi').2.2 j hj hj'
   ·rw [e2];exact h4.2.2 i hi'
  ·rw [e2];exact ⟨h4.1,h4.2.1,fun j hj hk=>by omega⟩
end Go.Proofs.YtdcocflnafcikaaGreatDoor
