import Derived.Test.YtnokmjmefipplaaGreatDoorOpCAll
import Derived.Test.YtnokmjmefipplaaGreatDoorTtM
import Derived.Test.YtnokmjmefipplaaGreatDoorTpAll
import Derived.Test.YtnokmjmefipplaaGreatDoorPqC
import Derived.Test.YtnokmjmefipplaaGreatDoorDigAll
import Derived.Test.YtnokmjmefipplaaGreatDoorPvJAll
import Derived.Deep.MidRow
namespace Go.Proofs.YtnokmjmefipplaaGreatDoor
open Go.RowKit
def Srch.crt (s:Srch):Crt:=⟨0,false,none,0,0,none,0,0,s.xa,s.xn,s.xc,none,0,0,s.za,s.zn,s.zc,0,s.X,fun _=>0,s.Z,s.ZX,fun _=>0,s.ZZ,1,1 + tot s.ZX s.xn + 1 + tot s.ZZ s.zn⟩
theorem SQ.crt {w:World} {s:Srch} (h:SQ w s):CQ w s.crt :=
 ⟨mG w,Nat.le_refl _,(mG w).sz (Nat.le_refl _),h.x,h.zx,.inl rfl,fun i hi=>absurd hi (Nat.not_lt_zero _),h.z,h.zz,by show 1 + tot s.ZX s.xn + 1 + tot s.ZZ s.zn≤_;exact Nat.le_refl _,h.xc,h.zc⟩
theorem SQ.crtK {w:World} {s:Srch} (h:SQ w s):s.crt.K≤s.K:=by
 have h1:=h.all
 have h2:=h.s1
 have h3:=bJ s.ZT s.tn
 show 1 + tot s.ZX s.xn + 1 + tot s.ZZ s.zn≤s.K
 omega
def Fnd (P:Prob) (s:Srch):Prop :=
 (s.vd = 1∧bY P s.xn s.X∧Whl P s.xn s.X∧vlu P s.X = s.v∧∀ n Y,bY P n Y→Whl P n Y→¬ btr P (vlu P Y) s.v) ∨
 (s.vd = 2∧∀ n Y,bY P n Y→¬ Whl P n Y) ∨
 (s.vd = 3∧bY P s.xn s.X∧Whl P s.xn s.X∧s.zn = P.vn∧Dir P s.Z∧imp P s.Z∧∀ j,j < P.vn→(P.V j).whole = true→s.Z j = 0)
theorem aH1 {P:Prob} {Z:Nat→Rat} (hd:Dir P Z) {j:Nat} (hj:j < P.vn) (h1:(P.V j).hlo = true) (h2:(P.V j).hhi = true):Z j = 0:=by
 have h:=hd.1 j hj
 have a:=h.1 h1
 have b:=h.2 h2
 grind
def Rch (T:Nat→Nod) (n:Nat):Prop:=∀ p:Nat→Prop,p 0→(∀ k,p k→(T k).sp = true→p (T k).lf.toNat)→(∀ k,p k→(T k).sp = true→p (T k).rt.toNat)→p n
theorem Rch.root {T:Nat→Nod}:Rch T 0:=fun _ h _ _=>h
theorem Rch.left {T:Nat→Nod} {k:Nat} (h:Rch T k) (hs:(T k).sp = true):Rch T (T k).lf.toNat:=fun p x y z=>y k (h p x y z) hs
theorem Rch.right {T:Nat→Nod} {k:Nat} (h:Rch T k) (hs:(T k).sp = true):Rch T (T k).rt.toNat:=fun p x y z=>z k (h p x y z) hs
structure OkN (P:Prob) (T:Nat→Nod) (tn k:Nat):Prop where
 v0:0≤(T k).var
 vn:(T k).var < (P.vn:Int)
 wh:(P.V (T k).var.toNat).whole = true
 l0:(k:Int) < (T k).lf
 l1:(T k).lf < (tn:Int)
 r0:(k:Int) < (T k).rt
 r1:(T k).rt < (tn:Int)
def aH2 (P:Prob) (T:Nat→Nod) (tn:Nat):Prop:=0 < tn∧∀ k,Rch T k→k < tn∧((T k).sp = true→OkN P T tn k)
theorem aK2 {P:Prob} {T:Nat→Nod} {tn:Nat} {R:Nat→Bool} (h0:0 < tn) (hr:R 0 = true) (h:∀ k,k < tn→R k = true→(T k).sp = true→OkN P T tn k∧R (T k).lf.toNat = true∧R (T k).rt.toNat = true):aH2 P T tn:=by
 refine ⟨h0,?_⟩
 have key:∀ k,Rch T k→k < tn∧R k = true:=fun k hk=>by
  refine hk (fun k=>k < tn∧R k = true) ⟨h0,hr⟩ (fun k ih hs=>?_) (fun k ih hs=>?_)
  ·obtain ⟨a,b,c⟩:=h _ ih.1 ih.2 hs
   have:=a.l0;have:=a.l1
   exact ⟨by omega,b⟩
  ·obtain ⟨a,b,c⟩:=h _ ih.1 ih.2 hs
   have:=a.r0;have:=a.r1
   exact ⟨by omega,c⟩
 exact fun k hk=>⟨(key k hk).1,fun hs=>(h k (key k hk).1 (key k hk).2 hs).1⟩
def jU (v:Nat) (c:List Value) (C:Nat→List Value) (j:Nat):List Value:=if j = v then c else C j
theorem aH3 (v:Nat) (c:List Value) (C:Nat→List Value):jU v (C v) (jU v c C) = C:=by
 funext j
 unfold jU
 by_cases e:j = v
 ·subst e;rw [if_pos rfl]
 ·rw [if_neg e,if_neg e]
def und (pv:Nat→Nat) (pw:Nat→List Value) (a:Nat):Nat→(Nat→List Value)→(Nat→List Value)
 | 0,C=>C
 | d + 1,C=>if d < a then C else und pv pw a d (jU (pv d) (pw d) C)
theorem oL {pv:Nat→Nat} {pw:Nat→List Value} {a d:Nat} {C:Nat→List Value} (h:d≤a):und pv pw a d C = C:=by
 cases d with
 | zero=>rfl
 | succ d=>exact if_pos (by omega)
theorem gQ {pv:Nat→Nat} {pw:Nat→List Value} {a d:Nat} {C:Nat→List Value} (h:a≤d):und pv pw a (d + 1) C = und pv pw a d (jU (pv d) (pw d) C):=if_neg (by omega)
theorem aH4 {pv:Nat→Nat} {pw:Nat→List Value} {a b:Nat} (hb:b≤a):∀ {d:Nat} {C:Nat→List Value},a≤d→und pv pw b d C = und pv pw b a (und pv pw a d C):=by
 intro d
 induction d with
 | zero =>
  intro C h
  rw [oL (a:=a) (d:=0) (by omega),show a = 0 by omega]
 | succ d ih =>
  intro C h
  rcases (by omega:a = d + 1∨a≤d) with h1 | h1
  ·rw [h1,oL (a:=d + 1) (d:=d + 1) (Nat.le_refl _)]
  ·rw [gQ h1,gQ (by omega:b≤d),ih h1]
theorem aE3 {pv pv':Nat→Nat} {pw pw':Nat→List Value} {a:Nat}:∀ {d:Nat} {C:Nat→List Value},(∀ i,i < d→pv i = pv' i∧pw i = pw' i)→und pv pw a d C = und pv' pw' a d C:=by
 intro d
 induction d with
 | zero=>intro C _;rfl
 | succ d ih =>
  intro C h
  by_cases h1:a≤d
  ·rw [gQ h1,gQ h1,(h d (by omega)).1,(h d (by omega)).2]
   exact ih fun i hi=>h i (by omega)
  ·rw [oL (by omega),oL (by omega)]
theorem aH5 {pv pv':Nat→Nat} {pw pw':Nat→List Value} {a d v:Nat} {c:List Value} {C:Nat→List Value} (ha:a≤d) (h:∀ i,i < d→pv' i = pv i∧pw' i = pw i) (h1:pv' d = v) (h2:pw' d = C v):und pv' pw' a (d + 1) (jU v c C) = und pv pw a d C:=by
 rw [gQ ha,h1,h2,aH3]
 exact aE3 h
def wgt (tn k:Nat):Nat:=3 ^ (tn - k)
theorem aK3 (tn k:Nat):0 < wgt tn k:=Nat.pow_pos (by omega)
theorem aK4 {tn k l r:Nat} (hl:k < l) (hr:k < r) (hl1:l < tn) (hr1:r < tn):wgt tn l + wgt tn r < wgt tn k:=by
 have h1:wgt tn l≤3 ^ (tn - k - 1):=Nat.pow_le_pow_right (by omega) (by omega)
 have h2:wgt tn r≤3 ^ (tn - k - 1):=Nat.pow_le_pow_right (by omega) (by omega)
 have h3:wgt tn k = 3 ^ (tn - k - 1) * 3:=by
  unfold wgt
  rw [← Nat.pow_succ]
  congr 1
  omega
 have h4:0 < 3 ^ (tn - k - 1):=Nat.pow_pos (by omega)
 omega
structure Prt where
 par:Nat
 abv:Nat
 rt:Bool
 B:Nat→BxV
 Z:Nat→Nat
def Prt.to (f:Prt) (T:Nat→Nod):Nat:=if f.rt = true then (T f.par).rt.toNat else (T f.par).lf.toNat
def Prt.box (f:Prt) (T:Nat→Nod):Nat→BxV:=if f.rt = true then gV f.B (T f.par).var.toNat (T f.par).at' else gU f.B (T f.par).var.toNat (T f.par).at'
def Bx (P:Prob) (T:Nat→Nod) (n:Nat) (A:Nat→BxV):Prop:=∀ p:Nat→(Nat→BxV)→Prop,p 0 (box0 P)→(∀ k B,p k B→(T k).sp = true→p (T k).lf.toNat (gU B (T k).var.toNat (T k).at'))→(∀ k B,p k B→(T k).sp = true→p (T k).rt.toNat (gV B (T k).var.toNat (T k).at'))→p n A
theorem Bx.root {P:Prob} {T:Nat→Nod}:Bx P T 0 (box0 P):=fun _ h _ _=>h
theorem Bx.left {P:Prob} {T:Nat→Nod} {k:Nat} {B:Nat→BxV} (h:Bx P T k B) (hs:(T k).sp = true):Bx P T (T k).lf.toNat (gU B (T k).var.toNat (T k).at'):=fun p x y z=>y k B (h p x y z) hs
theorem Bx.right {P:Prob} {T:Nat→Nod} {k:Nat} {B:Nat→BxV} (h:Bx P T k B) (hs:(T k).sp = true):Bx P T (T k).rt.toNat (gV B (T k).var.toNat (T k).at'):=fun p x y z=>z k B (h p x y z) hs
theorem Bx.rch {P:Prob} {T:Nat→Nod} {k:Nat} {B:Nat→BxV} (h:Bx P T k B):Rch T k:=h (fun k _=>Rch T k) .root (fun _ _ ih hs=>ih.left hs) (fun _ _ ih hs=>ih.right hs)
theorem Bx.leaf {P:Prob} {T:Nat→Nod} {k:Nat} {B:Nat→BxV} (h:Bx P T k B) (h0:(T 0).sp = false):k = 0∧B = box0 P :=
 h (fun k B=>k = 0∧B = box0 P) ⟨rfl,rfl⟩ (fun k B ih hs=>by rw [ih.1,h0] at hs;cases hs) (fun k B ih hs=>by rw [ih.1,h0] at hs;cases hs)
theorem Bx.part {P:Prob} {T:Nat→Nod} {f:Prt} (h:Bx P T f.par f.B) (hs:(T f.par).sp = true):Bx P T (f.to T) (f.box T):=by
 unfold Prt.to Prt.box
 split
 ·exact .right h hs
 ·exact .left h hs
def lK (T:Nat→Nod) (tn:Nat) (f:Nat→Prt):Nat→Nat
 | 0=>0
 | n + 1=>lK T tn f n + wgt tn ((f n).to T)
theorem aA6 {T:Nat→Nod} {tn:Nat} {f g:Nat→Prt}:∀ {n:Nat},(∀ i,i < n→f i = g i)→lK T tn f n = lK T tn g n:=by
 intro n
 induction n with
 | zero=>intro _;rfl
 | succ n ih =>
  intro h
  show lK T tn f n + _ = lK T tn g n + _
  rw [ih fun i hi=>h i (by omega),h n (by omega)]
def Due (P:Prob) (T:Nat→Nod) (inf:Bool) (s:Rat) (f:Nat→Prt) (n:Nat) (G:Prop):Prop:=(∀ i,i < n→Cov P ((f i).box T) inf s)→G
theorem Due.last {P:Prob} {T:Nat→Nod} {inf:Bool} {s:Rat} {f:Nat→Prt} {n:Nat} {G:Prop} (h:Due P T inf s f (n + 1) G):Due P T inf s f n (Cov P ((f n).box T) inf s→G):=fun k c=>h fun i hi=>by
 rcases (by omega:i < n∨i = n) with h1 | rfl
 ·exact k i h1
 ·exact c
theorem aK5 {Z Z':Nat→Nat} {v D:Nat} (h:∀ j,j ≠ v→Z' j = Z j) (hv:Z' v≤Z v + D):∀ n,tot Z' n≤tot Z n + D:=by
 have key:∀ n,n≤v→tot Z' n = tot Z n:=by
  intro n
  induction n with
  | zero=>intro _;rfl
  | succ n ih =>
   intro hn
   show tot Z' n + Z' n + 1 = tot Z n + Z n + 1
   rw [ih (by omega),h n (by omega)]
 intro n
 induction n with
 | zero=>exact Nat.le_add_right _ _
 | succ n ih =>
  show tot Z' n + Z' n + 1≤tot Z n + Z n + 1 + D
  by_cases e:n = v
  ·subst e
   rw [key n (Nat.le_refl _)]
   omega
  ·rw [h n e]
   omega
def Inf (T:TypeId) (c y:Nat):Prop:=∃ i z,Tryz.prog.info? T = some i∧i.zero = some z∧i.size = c∧i.bytes = y∧z.cells.size = c
theorem aH6 {T:TypeId} {c y:Nat} (h:(Tryz.prog.info? T).map (fun i=>(i.zero.map (fun z=>z.cells.size),i.size,i.bytes)) = some (some c,c,y)):Inf T c y:=by
 obtain ⟨i,hi,h⟩:=Option.map_eq_some_iff.1 h
 simp only [Prod.mk.injEq] at h
 obtain ⟨h1,h2,h3⟩:=h
 obtain ⟨z,hz,h4⟩:=Option.map_eq_some_iff.1 h1
 exact ⟨i,z,hi,hz,h2,h3,h4⟩
def SL (w:World) (B:Nat) (T:TypeId) (c:Nat) (v:Value) (n:Nat) (E:Nat→List Value):Prop :=
 ∃ vs:List Value,w.ownsRow B T c v n vs∧∀ i,i < n→∀ j u,(E i)[j]? = some u→j < c∧vs[i * c + j]? = some u
theorem SL.nil (w:World) (B:Nat) (T:TypeId) (c:Nat) (E:Nat→List Value):SL w B T c (.slice none 0 0) 0 E:=⟨[],World.ownsRow_nil _ _ _ _,fun i hi=>by omega⟩
theorem SL.below {w w':World} {B:Nat} {T:TypeId} {c:Nat} {v:Value} {n:Nat} {E:Nat→List Value} (h:SL w B T c v n E) (hb:Below w.heap.size w w'):SL w' B T c v n E:=by
 obtain ⟨vs,h1,h2⟩:=h
 refine ⟨vs,⟨h1.1,?_⟩,h2⟩
 rcases h1.2 with hn | ⟨g,cap,cur,e1,e2,hgb,rest⟩
 ·exact .inl hn
 ·exact .inr ⟨g,cap,cur,e1,e2,(hb.block g (Array.getElem?_eq_some_iff.1 hgb).1).trans hgb,rest⟩
theorem SL.form {w:World} {B:Nat} {T:TypeId} {c:Nat} {v:Value} {n:Nat} {E:Nat→List Value} (h:SL w B T c v n E):∃ a cap,v = .slice a n cap∧n≤cap:=by
 obtain ⟨vs,h1,h2⟩:=h
 rcases h1.2 with ⟨rfl,rfl⟩ | ⟨g,cap,cur,e1,_,_,h3,_⟩
 ·exact ⟨_,_,rfl,Nat.le_refl _⟩
 ·exact ⟨_,_,e1,h3⟩
theorem SL.lt {w:World} {B:Nat} {T:TypeId} {c:Nat} {v:Value} {n:Nat} {E:Nat→List Value} (h:SL w B T c v n E):∀ k,v.ownBlock = some k→B≤k∧k < w.heap.size:=by
 obtain ⟨vs,h1,h2⟩:=h
 exact World.ownsRow.lt h1
theorem SL.cell {w:World} {B:Nat} {T:TypeId} {c:Nat} {a:Option Addr} {m n cap:Nat} {E:Nat→List Value} (h:SL w B T c (.slice a m cap) n E):n = 0∨∃ g,a = some ⟨g,0,none⟩∧∀ i,i < n→∀ j u,(E i)[j]? = some u→w.cell? ⟨g,i * c + j,none⟩ = some u:=by
 obtain ⟨vs,h1,h2⟩:=h
 rcases h1.2 with ⟨e1,e2⟩ | ⟨g,cap,cur,e1,_,hg,_,_,_,ht⟩
 ·exact .inl e2
 ·simp only [Value.slice.injEq] at e1
  obtain ⟨rfl,_,_⟩:=e1
  exact .inr ⟨g,rfl,fun i hi j u hu=>dI hg ht (h2 i hi j u hu).2⟩
theorem SL.congr {w:World} {B:Nat} {T:TypeId} {c:Nat} {v:Value} {n:Nat} {E F:Nat→List Value} (h:SL w B T c v n E) (e:∀ i,i < n→E i = F i):SL w B T c v n F:=by
 obtain ⟨vs,h1,h2⟩:=h
 exact ⟨vs,h1,fun i hi=>by rw [← e i hi];exact h2 i hi⟩
end Go.Proofs.YtnokmjmefipplaaGreatDoor
namespace Go.Proofs.YtnokmjmefipplaaGreatDoor
open Go.RowKit Go.Shelf
structure KeptY (B:Nat) (W W':World):Prop where
 size:W.heap.size≤W'.heap.size
 same:∀ k,B≤k→k < W.heap.size→W'.heap[k]? = W.heap[k]?
theorem KeptY.refl (B:Nat) (W:World):KeptY B W W:=⟨Nat.le_refl _,fun _ _ _=>rfl⟩
theorem KeptY.trans {D:Nat} {A B C:World} (h:KeptY D A B) (k:KeptY D B C):KeptY D A C:=⟨Nat.le_trans h.size k.size,fun i h1 h2=>(k.same i h1 (Nat.lt_of_lt_of_le h2 h.size)).trans (h.same i h1 h2)⟩
theorem KeptY.of_below {B:Nat} {W W':World} (h:Below W.heap.size W W'):KeptY B W W':=⟨h.size,fun k _ hk=>h.block k hk⟩
theorem KeptY.up {B B':Nat} {W W':World} (h:KeptY B W W') (hB:B≤B'):KeptY B' W W':=⟨h.size,fun k hk h1=>h.same k (Nat.le_trans hB hk) h1⟩
theorem KeptY.putObj {B:Nat} (W:World) {l:Nat} (o':Obj) (hl:l < B):KeptY B W (W.putObj l o'):=⟨by simp,fun k hk _=>World.putObj_heap_other (by omega)⟩
theorem KeptY.of_off {B g:Nat} {W W':World} (h:Off g W W') (hg:g < B):KeptY B W W':=⟨by have:=h.size;omega,fun k hk _=>h.block k (by omega)⟩
def AbY {β:Type} (B:Nat) (J:β→World→Prop):Prop:=∀ s W W',J s W→Below B W W'→J s W'
theorem dU {B l:Nat} (W:World) (o':Obj) (hl:B≤l):Below B W (W.putObj l o'):=⟨rfl,rfl,rfl,by simp,fun k hk=>World.putObj_heap_other (by omega)⟩
def SeqY (F:Fence) (P:Program) (g:Nat) (lb:Array Value) {S X:Type} (Nx:S→X→S→Prop) (Fin:S→Prop) (Mem:S→World→Prop) (Ok:Nat→S→X→Value→Value→World→Prop) (s0:S) (w0:World):Prop :=
 ∀ (n l:Nat) (J:S→World→Prop) (Jx:World→Prop) (W:World),Below w0.heap.size w0 W→AbY W.heap.size J→(∀ A A',Jx A→Below W.heap.size A A'→Jx A')→(∀ s A,J s A→Mem s A) →
  (∀ (m:Nat) s b x y W1,J s W1→Below w0.heap.size w0 W1→W.heap.size≤W1.heap.size→Ok W.heap.size s b x y W1→YieldAt F m P l #[x,y] W1 fun e W' =>
   (e = .returned (.bool true)∧(∃ s',Nx s b s'∧J s' W')∧KeptY W.heap.size W1 W'∧Below w0.heap.size w0 W')∨(e = .returned (.bool false)∧Jx W'∧KeptY W.heap.size W1 W')) →
  J s0 W →
  CallsIn F n P g (#[.func (.yield l) #[] #[]] ++ lb) W fun e W'=>(∃ v,e = .returned v)∧((∃ s,Fin s∧J s W'∧Below w0.heap.size w0 W')∨Jx W')
variable {F:Fence} {n:Nat} {P:Program}
def aL9 {S X:Type} (B:Nat) (w0:World) (Nx:S→X→S→Prop) (I:S→World→Prop) (Ix:Code→World→Prop) (s:S) (b:X) (W:World):Exit→Act→World→Prop
 | .normal,_,W'=>KeptY B W W'∧Below w0.heap.size w0 W'∧∃ s',Nx s b s'∧I s' W'
 | .ret,_,W'=>KeptY B W W'∧Ix .ret W'
 | .exit id,_,W'=>KeptY B W W'∧Ix (.exit id) W'
 | .goto t,_,W'=>KeptY B W W'∧Ix (.goto t) W'
 | _,_,_=>False
section loop
variable {g:Operand} {ps:Array Tmp} {assign body:Code} {a:Act} {gf:Nat} {lb:Array Value} {S X:Type} {Nx:S→X→S→Prop} {Fin:S→Prop} {Mem:S→World→Prop} {Ok:Nat→S→X→Value→Value→World→Prop} {s0:S} {B l dl:Nat} {w0 W1:World} {fn:FuncId}
 {I:S→World→Prop} {Ix:Code→World→Prop} {a₁:Value→Value→Nat→Act} {Al:Value→Value→Nat→World→Prop}
def jI (fn:FuncId) (tmps:Array Value) (ps:Array Tmp) (assign body:Code) (dl:Nat) (st:LoopState) (pe:Option Code):Obj :=
 .loop { state:=st,pending:=pe,fn,tmps,params:=ps,assign,body,defers:=dl }
theorem aK6 (hseq:SeqY F P gf lb Nx Fin Mem Ok s0 w0) (hOk:∀ C s b x y W W',Ok C s b x y W→Below w0.heap.size w0 W'→KeptY C W W'→Ok C s b x y W') (hAl:∀ C x y h X X',Al x y h X→KeptY C X X'→C≤h→Al x y h X')
 (hfn:F.fn fn) (hps:ps.size = 2) (hw:Below w0.heap.size w0 W1) (hB:B≤l) (hlw:w0.heap.size≤l)
 (hl:W1.heap[l]? = some (jI fn a.tmps ps assign body dl .ready none)) (hI:AbY B I) (hIx:∀ c A A',Ix c A→Below B A A'→Ix c A') (hIm:∀ s A,I s A→Mem s A) (h0:I s0 W1)
 (hassign:∀ (m:Nat) (x y:Value) (W:World) (K:Act→World→Prop),(∃ C s b V,Ok C s b x y V)→(∀ V,Below W.heap.size W V→Al x y W.heap.size V→K (a₁ x y W.heap.size) V) →
  assign.wpIn (F.inRound l) m P (Exit.then K (fun _ _ _=>False)) { tmps:=(ps.zip #[x,y]).foldl (fun t (p,v)=>t.setIfInBounds p v) a.tmps,defers:=[] } W)
 (hbody:∀ (m:Nat) s b x y h V,Al x y h V→W1.heap.size≤h→I s V→Below w0.heap.size w0 V→Ok W1.heap.size s b x y V→body.wpIn (F.inRound l) m P (aL9 B w0 Nx I Ix s b V) (a₁ x y h) V) :
 CallsIn F n P gf (#[.func (.yield l) #[] #[]] ++ lb) W1 fun e W2=>(∃ v,e = .returned v) ∧
  ((∃ s,Fin s∧I s W2∧Below w0.heap.size w0 W2∧W2.heap[l]? = some (jI fn a.tmps ps assign body dl .ready none)) ∨
   (∃ c,Ix c W2∧W2.heap[l]? = some (jI fn a.tmps ps assign body dl .done (some c)))):=by
 have hlt1:l < W1.heap.size:=(Array.getElem?_eq_some_iff.1 hl).1
 have belB:∀ {A C:World},Below W1.heap.size A C→Below B A C:=fun t=>t.mono (by omega)
 have still:∀ {A C:World} {o:Obj},Below W1.heap.size A C→A.heap[l]? = some o→C.heap[l]? = some o:=fun t h=>(t.block l hlt1).trans h
 refine (hseq n l (fun s W=>I s W∧W.heap[l]? = some (jI fn a.tmps ps assign body dl .ready none))
  (fun W=>∃ c,Ix c W∧W.heap[l]? = some (jI fn a.tmps ps assign body dl .done (some c))) W1 hw
  (fun s A C h t=>⟨hI s A C h.1 (belB t),still t h.2⟩) (fun A C ⟨c,h1,h2⟩ t=>⟨c,hIx c A C h1 (belB t),still t h2⟩) (fun s A h=>hIm s A h.1) ?_ ⟨h0,hl⟩).mono ?_
 ·rintro m s b x y W ⟨hi,hr⟩ hbel hsz hok
  have hy:=run_yield (P:=P) (args:=#[x,y]) hr (by simp [hps])
  refine ⟨fn,_,assign,body,hy,roundIn_of_wpIn hfn (hassign m x y W _ ⟨_,_,_,_,hok⟩ fun V hV hal=>?_)⟩
  have hlW:l < W.heap.size:=(Array.getElem?_eq_some_iff.1 hr).1
  have hrV:V.heap[l]? = some (jI fn a.tmps ps assign body dl .ready none):=(hV.block l hlW).trans hr
  refine ⟨_,run_beginRound hrV rfl,?_⟩
  have busy:(V.putObj l (jI fn a.tmps ps assign body dl .busy none)).heap[l]? = some (jI fn a.tmps ps assign body dl .busy none):=World.putObj_heap_same (Array.getElem?_eq_some_iff.1 hrV).1
  have hk0:KeptY W1.heap.size W (V.putObj l (jI fn a.tmps ps assign body dl .busy none)):=(KeptY.of_below hV).trans (KeptY.putObj _ _ hlt1)
  have hb0:Below w0.heap.size w0 (V.putObj l (jI fn a.tmps ps assign body dl .busy none)):=(hbel.trans (hV.mono hbel.size)).trans (dU _ _ hlw)
  refine wpIn_mono (hbody m s b x y W.heap.size (V.putObj l (jI fn a.tmps ps assign body dl .busy none)) (hAl W1.heap.size _ _ _ _ _ hal (KeptY.putObj _ _ hlt1) hsz) hsz (hI _ _ _ (hI _ _ _ hi (hV.mono (by omega))) (dU _ _ hB)) hb0 (hOk _ _ _ _ _ _ _ hok hb0 hk0)) ?_
  have after:∀ {W3:World} (j:Option Code),KeptY B (V.putObj l (jI fn a.tmps ps assign body dl .busy none)) W3 →
   W3.heap[l]? = some (jI fn a.tmps ps assign body dl .busy none) ∧
   (Instr.endRound l j).run P W3 = .ok (.bool j.isNone) (W3.putObj l (jI fn a.tmps ps assign body dl (if j.isNone then .ready else .done) j)) ∧
   (W3.putObj l (jI fn a.tmps ps assign body dl (if j.isNone then .ready else .done) j)).heap[l]? = some (jI fn a.tmps ps assign body dl (if j.isNone then .ready else .done) j):=by
   intro W3 j hk
   have h3:=(hk.same l hB (Array.getElem?_eq_some_iff.1 busy).1).trans busy
   exact ⟨h3,run_endRound j h3,World.putObj_heap_same (Array.getElem?_eq_some_iff.1 h3).1⟩
  intro e a3 W3 hp
  have away:∀ c,KeptY B (V.putObj l (jI fn a.tmps ps assign body dl .busy none)) W3∧Ix c W3 →
   ∃ v w',(Instr.endRound l (some c)).run P W3 = .ok v w'∧((Ending.returned v = .returned (.bool true)∧(∃ s',Nx s b s'∧I s' w'∧w'.heap[l]? = some (jI fn a.tmps ps assign body dl .ready none))∧KeptY W1.heap.size W w'∧Below w0.heap.size w0 w') ∨
    (Ending.returned v = .returned (.bool false)∧(∃ c,Ix c w'∧w'.heap[l]? = some (jI fn a.tmps ps assign body dl .done (some c)))∧KeptY W1.heap.size W w')):=by
   rintro c ⟨h1,h2⟩
   obtain ⟨p1,p2,p3⟩:=after (some c) h1
   exact ⟨_,_,p2,.inr ⟨rfl,⟨c,hIx c _ _ h2 (dU _ _ hB),p3⟩,(hk0.trans (h1.up (by omega))).trans (KeptY.putObj _ _ hlt1)⟩⟩
  cases e with
  | normal =>
   obtain ⟨h1,h4,s',h2,h3⟩:=hp
   obtain ⟨p1,p2,p3⟩:=after none h1
   exact ⟨_,_,p2,.inl ⟨rfl,⟨s',h2,hI _ _ _ h3 (dU _ _ hB),p3⟩,(hk0.trans (h1.up (by omega))).trans (KeptY.putObj _ _ hlt1),h4.trans (dU _ _ hlw)⟩⟩
  | ret=>exact away _ hp
  | exit id=>exact away _ hp
  | goto t=>exact away _ hp
  | panic ch=>exact hp.elim
  | outgrown=>exact hp.elim
 ·rintro e W2 ⟨hv,⟨s,h1,⟨h2,h3⟩,h4⟩ | ⟨c,h2,h3⟩⟩
  ·exact ⟨hv,.inl ⟨s,h1,h2,h4,h3⟩⟩
  ·exact ⟨hv,.inr ⟨c,h2,h3⟩⟩
set_option maxHeartbeats 100000 in
theorem oM {Q:Exit→Act→World→Prop} {w:World} (hro:F.round = none) (hd:F.depth = none) (hg:a.eval g = .func (.func gf) #[] lb) (hFg:F.fn gf) (eg:∀ args w,(callFunc gf args).run P w = .ok (.enter gf args) w)
 (hseq:SeqY F P gf lb Nx Fin Mem Ok s0 w0) (hOk:∀ C s b x y W W',Ok C s b x y W→Below w0.heap.size w0 W'→KeptY C W W'→Ok C s b x y W') (hw:Below w0.heap.size w0 w) (hps:ps.size = 2)
 (Al:Value→Value→Nat→World→Prop) (hAl:∀ C x y h X X',Al x y h X→KeptY C X X'→C≤h→Al x y h X')
 (I:S→World→Prop) (Ix:Code→World→Prop) (hI:AbY w.heap.size I) (hIx:∀ c A A',Ix c A→Below w.heap.size A A'→Ix c A') (hIm:∀ s A,I s A→Mem s A) (h0:I s0 w) (a₁:Value→Value→Nat→Act)
 (hassign:∀ (l m:Nat) (x y:Value) (W:World) (K:Act→World→Prop),(∃ C s b V,Ok C s b x y V)→(∀ V,Below W.heap.size W V→Al x y W.heap.size V→K (a₁ x y W.heap.size) V) →
  assign.wpIn (F.inRound l) m P (Exit.then K (fun _ _ _=>False)) { tmps:=(ps.zip #[x,y]).foldl (fun t (p,v)=>t.setIfInBounds p v) a.tmps,defers:=[] } W)
 (hbody:∀ (l m:Nat) s b x y h V,Al x y h V→w.heap.size + 2≤h→I s V→Below w0.heap.size w0 V→Ok (w.heap.size + 2) s b x y V→body.wpIn (F.inRound l) m P (aL9 w.heap.size w0 Nx I Ix s b V) (a₁ x y h) V)
 (hdone:∀ (D:Nat) (s:S) (W:World),w.heap.size≤D→Fin s→I s W→Below w0.heap.size w0 W→W.heap[D]? = some (.deferred (some []))→Q .normal { a with defers:={ target:=.collected D,args:=#[] } :: a.defers } W)
 (hstop:∀ (D:Nat) (c:Code) (W:World),w.heap.size≤D→Ix c W→W.heap[D]? = some (.deferred (some []))→c.wpIn F n P Q { a with defers:={ target:=.collected D,args:=#[] } :: a.defers } W) :
 (Code.rangeFunc g ps assign body).wpIn F n P Q a w:=by
 refine wpIn_rangeFunc fun fn hfn=>?_
 have hww:=hw.size
 obtain ⟨W1,hW1⟩:∃ W1,(w.alloc (.deferred (some []))).alloc (jI fn a.tmps ps assign body w.heap.size .ready none) = W1:=⟨_,rfl⟩
 have hWd:W1.heap[w.heap.size]? = some (.deferred (some [])):=by
  rw [← hW1];exact (Below.heap_alloc _ _ _ (by simp)).trans (World.alloc_heap_new w _)
 have hWl:W1.heap[w.heap.size + 1]? = some (jI fn a.tmps ps assign body w.heap.size .ready none):=by
  rw [← hW1]
  have:=World.alloc_heap_new (w.alloc (.deferred (some []))) (jI fn a.tmps ps assign body w.heap.size .ready none)
  rwa [World.size_alloc] at this
 have hsz1:W1.heap.size = w.heap.size + 2:=by rw [← hW1];simp
 have hb1:Below w.heap.size w W1:=by rw [← hW1];exact ((Below.refl _ w).alloc (Nat.le_refl _) _).alloc (by simp) _
 have hWb:Below w0.heap.size w0 W1:=hw.trans (hb1.mono hww)
 have def2:∀ {A C:World},Below (w.heap.size + 1) A C→A.heap[w.heap.size]? = some (.deferred (some []))→C.heap[w.heap.size]? = some (.deferred (some [])):=fun t h=>(t.block _ (by omega)).trans h
 have hcall:=aK6 (a:=a) (n:=n - 1) (B:=w.heap.size + 1) (dl:=w.heap.size) (l:=w.heap.size + 1) (I:=fun s W=>I s W∧W.heap[w.heap.size]? = some (.deferred (some []))) (Ix:=fun c W=>Ix c W∧W.heap[w.heap.size]? = some (.deferred (some []))) (a₁:=a₁) (Al:=Al) hseq hOk hAl hfn hps
  hWb (Nat.le_refl _) (by omega) hWl (fun s A C h t=>⟨hI s A C h.1 (t.mono (by omega)),def2 t h.2⟩) (fun c A C h t=>⟨hIx c A C h.1 (t.mono (by omega)),def2 t h.2⟩) (fun s A h=>hIm s A h.1) ⟨hI _ _ _ h0 hb1,hWd⟩ (hassign _)
  (fun m s b x y h V q1 q2 hi hbv hok=>wpIn_mono (hbody _ m s b x y h V q1 (by omega) hi.1 hbv (by rw [← hsz1];exact hok)) (fun e a3 W3 hp=>by
   have dn:KeptY w.heap.size V W3→W3.heap[w.heap.size]? = some (.deferred (some [])):=fun k=>(k.same _ (Nat.le_refl _) (Array.getElem?_eq_some_iff.1 hi.2).1).trans hi.2
   cases e with
   | normal=>exact ⟨hp.1.up (by omega),hp.2.1,hp.2.2.elim fun s' hs=>⟨s',hs.1,hs.2,dn hp.1⟩⟩
   | ret=>exact ⟨hp.1.up (by omega),hp.2,dn hp.1⟩
   | exit id=>exact ⟨hp.1.up (by omega),hp.2,dn hp.1⟩
   | goto t=>exact ⟨hp.1.up (by omega),hp.2,dn hp.1⟩
   | panic ch=>exact hp.elim
   | outgrown=>exact hp.elim))
 refine ⟨w.heap.size + 1,[{ target:=.collected w.heap.size,args:=#[] }],W1,{ target:=.fn (.func gf) lb,args:=#[.func (.yield (w.heap.size + 1)) #[] #[]] },W1,gf,#[.func (.yield (w.heap.size + 1)) #[] #[]] ++ lb,W1,?_,?_,?_,?_,?_,?_⟩
 ·rw [hro,← hW1];exact run_enterLoop_outer _ _ _ _ _
 ·simp only [resolve,hg]
  simp [go_sem]
 ·intro f' hf'
  simp [Target.leads] at hf';subst hf';exact hFg
 ·simp [invoke,go_sem,eg]
 ·intro h
  rw [hd] at h;cases h
 refine hcall.mono ?_
 rintro e W2 ⟨⟨v,rfl⟩,⟨s,hS,hi,hbe,hl⟩ | ⟨c,hi,hl⟩⟩
 ·have h1:=run_endLoop (P:=P) hl (by simp)
  exact ⟨none,_,h1,hdone _ s _ (Nat.le_refl _) hS (hI _ _ _ hi.1 (dU _ _ (by omega))) (hbe.trans (dU _ _ (by omega))) ((World.putObj_heap_other (by omega)).trans hi.2)⟩
 ·have h1:=run_endLoop (P:=P) hl (by simp)
  exact ⟨some c,_,h1,hstop _ c _ (Nat.le_refl _) (hIx c _ _ hi.1 (dU _ _ (by omega))) ((World.putObj_heap_other (by omega)).trans hi.2)⟩
end loop
end Go.Proofs.YtnokmjmefipplaaGreatDoor
namespace Go.Proofs.YtnokmjmefipplaaGreatDoor
open Go.RowKit
structure Kb (F:Nat) (L:List TypeId) (w w':World):Prop where
 os:w'.os = w.os
 tape:w'.tape = w.tape
 output:w'.output = w.output
 size:w.heap.size≤w'.heap.size
 low:∀ k,k < F→w'.heap[k]? = w.heap[k]?
 high:∀ (k:Nat) (cur:Array Value) (T:TypeId) (f:Nat × Nat),w.heap[k]? = some (Obj.cells cur T f)→T ∉ L→w'.heap[k]? = w.heap[k]?
theorem Kb.refl (F:Nat) (L:List TypeId) (w:World):Kb F L w w:=⟨rfl,rfl,rfl,Nat.le_refl _,fun _ _=>rfl,fun _ _ _ _ _ _=>rfl⟩
theorem Kb.trans {F:Nat} {L:List TypeId} {a b c:World} (h:Kb F L a b) (k:Kb F L b c):Kb F L a c :=
 ⟨k.os.trans h.os,k.tape.trans h.tape,k.output.trans h.output,Nat.le_trans h.size k.size,fun i h1=>(k.low i h1).trans (h.low i h1),fun i cur T f h1 h2=>by
  have e:=h.high i cur T f h1 h2
  exact (k.high i cur T f (e.trans h1) h2).trans e⟩
theorem Kb.up {F:Nat} {L L':List TypeId} {a b:World} (h:Kb F L a b) (hL:∀ T ∈ L,T ∈ L'):Kb F L' a b :=
 ⟨h.os,h.tape,h.output,h.size,h.low,fun i cur T f h1 h2=>h.high i cur T f h1 fun e=>h2 (hL _ e)⟩
theorem Kb.below {F:Nat} {L:List TypeId} {a b:World} (h:Kb F L a b):Below F a b:=⟨h.os,h.tape,h.output,h.size,fun k hk=>h.low k hk⟩
theorem bZ {F:Nat} (L:List TypeId) {b c:World} (k:Below b.heap.size b c) (hF:F≤b.heap.size):Kb F L b c :=
 ⟨k.os,k.tape,k.output,k.size,fun i h1=>k.block i (by omega),fun i cur T f h1 _=>k.block i (Array.getElem?_eq_some_iff.1 h1).1⟩
theorem jV {F g:Nat} {w w':World} {T:TypeId} {cur:Array Value} {f:Nat × Nat} (hg:w.heap[g]? = some (Obj.cells cur T f)) (hF:F≤g) (o:Off g w w'):Kb F [T] w w' :=
 ⟨o.os,o.tape,o.output,Nat.le_of_eq o.size.symm,fun k hk=>o.block k (by omega),fun k cur' U f' h1 h2=>o.block k fun e=>by
  subst e
  rw [hg] at h1
  simp only [Option.some.injEq,Obj.cells.injEq] at h1
  exact h2 (by rw [← h1.2.1];exact List.mem_singleton.2 rfl)⟩
theorem zB {F:Nat} {b c:World} {B:Nat} {T:TypeId} {d:Nat} {v:Value} {n:Nat} {E:Nat→List Value} (hs:SL b B T d v n E) (hB:F≤B) (hF:F≤b.heap.size) (k:b.grownBy c v.ownBlock):Kb F [T] b c:=by
 have hlt:=hs.lt
 refine ⟨k.os,k.tape,k.output,k.size,fun i h1=>k.block i (by omega) fun e=>by have:=(hlt i e.symm).1;omega,fun i cur U f h1 h2=>?_⟩
 refine k.block i (Array.getElem?_eq_some_iff.1 h1).1 fun e2=>?_
 obtain ⟨vs,g1,_⟩:=hs
 rcases g1.2 with ⟨rfl,_⟩ | ⟨g,cap,cu,e1,_,f1,_⟩
 ·simp [Value.ownBlock] at e2
 ·subst e1
  simp [Value.ownBlock] at e2
  subst e2
  rw [h1] at f1
  simp only [Option.some.injEq,Obj.cells.injEq] at f1
  exact h2 (by rw [f1.2.1];exact List.mem_singleton.2 rfl)
theorem Rw.kb {t:TypeId} {w w':World} {F Q:Nat} {L:List TypeId} {cs:Array Value} (h:Rw t w Q cs) (k:Kb F L w w') (ht:t ∉ L):Rw t w' Q cs:=(k.high Q _ _ _ h ht).trans h
theorem aH7 {w w':World} {F:Nat} {L:List TypeId} {B:Nat} {T:TypeId} {c:Nat} {v:Value} {n:Nat} {vs:List Value} (h:w.ownsRow B T c v n vs) (k:Kb F L w w') (hT:T ∉ L):w'.ownsRow B T c v n vs:=by
 refine ⟨h.1,?_⟩
 rcases h.2 with hn | ⟨g,cap,cur,e1,e2,hgb,rest⟩
 ·exact .inl hn
 ·exact .inr ⟨g,cap,cur,e1,e2,(k.high g _ _ _ hgb hT).trans hgb,rest⟩
theorem SL.kb {w w':World} {F:Nat} {L:List TypeId} {B:Nat} {T:TypeId} {c:Nat} {v:Value} {n:Nat} {E:Nat→List Value} (h:SL w B T c v n E) (k:Kb F L w w') (hT:T ∉ L):SL w' B T c v n E:=by
 obtain ⟨vs,h1,h2⟩:=h
 exact ⟨vs,aH7 h1 k hT,h2⟩
theorem Got.kb {w w':World} {F:Nat} {L:List TypeId} {B:Nat} {v:Value} {x:Int} {S:Nat} (h:Got w B v x S) (k:Kb F L w w') (hL:80 ∉ L):Got w' B v x S:=by
 obtain ⟨xs,h1,h2⟩:=h
 exact ⟨xs,aH7 h1 k hL,h2⟩
theorem GR.kb {w w':World} {F:Nat} {L:List TypeId} {B:Nat} {f:Bool} {c:Option Addr} {n k:Nat} {c':Option Addr} {n' k':Nat} {r:Rat} {S:Nat} (h:GR w B f c n k c' n' k' r S) (hk:Kb F L w w') (hL:80 ∉ L):GR w' B f c n k c' n' k' r S:=by
 refine ⟨?_,h.2.kb hk hL⟩
 obtain ⟨a,n2,c2,h1,h2⟩:=h.1
 exact ⟨a,n2,c2,h1,h2.kb hk hL⟩
theorem Rw.keptY {t:TypeId} {w w':World} {F Q:Nat} {cs:Array Value} (h:Rw t w Q cs) (k:KeptY F w w') (hQ:F≤Q):Rw t w' Q cs:=(k.same Q hQ (Array.getElem?_eq_some_iff.1 h).1).trans h
theorem vO {w w':World} {F:Nat} {T:TypeId} {c:Nat} {v:Value} {n:Nat} {vs:List Value} (h:w.ownsRow F T c v n vs) (k:KeptY F w w'):w'.ownsRow F T c v n vs:=by
 refine ⟨h.1,?_⟩
 rcases h.2 with hn | ⟨g,cap,cur,e1,e2,hgb,rest⟩
 ·exact .inl hn
 ·exact .inr ⟨g,cap,cur,e1,e2,(k.same g e2 (Array.getElem?_eq_some_iff.1 hgb).1).trans hgb,rest⟩
theorem SL.keptY {w w':World} {F:Nat} {T:TypeId} {c:Nat} {v:Value} {n:Nat} {E:Nat→List Value} (h:SL w F T c v n E) (k:KeptY F w w'):SL w' F T c v n E:=by
 obtain ⟨vs,h1,h2⟩:=h
 exact ⟨vs,vO h1 k,h2⟩
theorem Got.keptY {w w':World} {F:Nat} {v:Value} {x:Int} {S:Nat} (h:Got w F v x S) (k:KeptY F w w'):Got w' F v x S:=by
 obtain ⟨xs,h1,h2⟩:=h
 exact ⟨xs,vO h1 k,h2⟩
theorem GR.keptY {w w':World} {F:Nat} {f:Bool} {c:Option Addr} {n k:Nat} {c':Option Addr} {n' k':Nat} {r:Rat} {S:Nat} (h:GR w F f c n k c' n' k' r S) (hk:KeptY F w w'):GR w' F f c n k c' n' k' r S:=by
 refine ⟨?_,h.2.keptY hk⟩
 obtain ⟨a,n2,c2,h1,h2⟩:=h.1
 exact ⟨a,n2,c2,h1,h2.keptY hk⟩
def NX (w0 w:World) (F:Nat) (p:Bool) (a:Option Addr) (na ca:Nat) (d:Option Addr) (nd cd:Nat) (r:Rat) (S:Nat):Prop:=TR w0 p a na ca d nd cd r S∨GR w F p a na ca d nd cd r S
section
variable {w0 w w':World} {F:Nat} {p:Bool} {a:Option Addr} {na ca:Nat} {d:Option Addr} {nd cd:Nat} {r:Rat} {S R:Nat}
theorem NX.tr (h:NX w0 w F p a na ca d nd cd r S) (hb:Below w0.heap.size w0 w):TR w p a na ca d nd cd r S:=h.elim (fun h=>h.below hb) (fun h=>h.tr)
theorem NX.kb {L:List TypeId} {F':Nat} (h:NX w0 w F p a na ca d nd cd r S) (k:Kb F' L w w') (hL:80 ∉ L):NX w0 w' F p a na ca d nd cd r S:=h.imp id fun h=>h.kb k hL
theorem NX.keptY (h:NX w0 w F p a na ca d nd cd r S) (k:KeptY F w w'):NX w0 w' F p a na ca d nd cd r S:=h.imp id fun h=>h.keptY k
theorem NX.up (h:NX w0 w F p a na ca d nd cd r S) (hR:S≤R):NX w0 w F p a na ca d nd cd r R:=h.imp (fun h=>h.up hR) fun h=>h.le hR
end
def VX (w0 w:World) (F:Nat) (c:List Value) (v:PV) (S:Nat):Prop :=
 ∃ pO aO nO cO dO mO lO pl al nl cl dl ml ll ph ah nh ch dh mh lh,c = [.string v.nm,.bool pO,.slice aO nO cO,.slice dO mO lO,.bool v.hlo,.bool pl,.slice al nl cl,.slice dl ml ll,.bool v.hhi,.bool ph,.slice ah nh ch,.slice dh mh lh,.bool v.whole]∧NX w0 w F pO aO nO cO dO mO lO v.obj S∧NX w0 w F pl al nl cl dl ml ll v.lo S∧NX w0 w F ph ah nh ch dh mh lh v.hi S∧1≤S∧SzR v.obj S∧SzR v.lo S∧SzR v.hi S∧v.nm.size≤S
section
variable {w0 w w':World} {F:Nat} {c:List Value} {v:PV} {S:Nat}
theorem VX.kb {L:List TypeId} {F':Nat} (h:VX w0 w F c v S) (k:Kb F' L w w') (hL:80 ∉ L):VX w0 w' F c v S:=by
 obtain ⟨pO,aO,nO,cO,dO,mO,lO,pl,al,nl,cl,dl,ml,ll,ph,ah,nh,ch,dh,mh,lh,e,h1,h2,h3,rest⟩:=h
 exact ⟨pO,aO,nO,cO,dO,mO,lO,pl,al,nl,cl,dl,ml,ll,ph,ah,nh,ch,dh,mh,lh,e,h1.kb k hL,h2.kb k hL,h3.kb k hL,rest⟩
theorem VX.keptY (h:VX w0 w F c v S) (k:KeptY F w w'):VX w0 w' F c v S:=by
 obtain ⟨pO,aO,nO,cO,dO,mO,lO,pl,al,nl,cl,dl,ml,ll,ph,ah,nh,ch,dh,mh,lh,e,h1,h2,h3,rest⟩:=h
 exact ⟨pO,aO,nO,cO,dO,mO,lO,pl,al,nl,cl,dl,ml,ll,ph,ah,nh,ch,dh,mh,lh,e,h1.keptY k,h2.keptY k,h3.keptY k,rest⟩
theorem VX.len (h:VX w0 w F c v S):c.length = 13:=by
 obtain ⟨pO,aO,nO,cO,dO,mO,lO,pl,al,nl,cl,dl,ml,ll,ph,ah,nh,ch,dh,mh,lh,rfl,_⟩:=h
 rfl
theorem VX.var (h:VX w0 w F c v S) (hb:Below w0.heap.size w0 w) {g o:Nat} (hc:w.rangeAt g o c):VarAt w g o v S:=by
 obtain ⟨pO,aO,nO,cO,dO,mO,lO,pl,al,nl,cl,dl,ml,ll,ph,ah,nh,ch,dh,mh,lh,rfl,h1,h2,h3,s1,s2,s3,s4,s5⟩:=h
 exact ⟨hc 0 _ rfl,⟨_,_,_,_,_,_,_,hc 1 _ rfl,hc 2 _ rfl,hc 3 _ rfl,h1.tr hb⟩,hc 4 _ rfl,⟨_,_,_,_,_,_,_,hc 5 _ rfl,hc 6 _ rfl,hc 7 _ rfl,h2.tr hb⟩,hc 8 _ rfl,⟨_,_,_,_,_,_,_,hc 9 _ rfl,hc 10 _ rfl,hc 11 _ rfl,h3.tr hb⟩,hc 12 _ rfl,s1,s2,s3,s4,s5⟩
end
def Sh13 (c:List Value):Prop:=∃ (nm:ByteArray) (pO:Bool) (aO:Option Addr) (nO cO:Nat) (dO:Option Addr) (mO lO:Nat) (hl pl:Bool) (al:Option Addr) (nl cl:Nat) (dl:Option Addr) (ml ll:Nat) (hh ph:Bool) (ah:Option Addr) (nh ch:Nat) (dh:Option Addr) (mh lh:Nat) (wh:Bool),c = [.string nm,.bool pO,.slice aO nO cO,.slice dO mO lO,.bool hl,.bool pl,.slice al nl cl,.slice dl ml ll,.bool hh,.bool ph,.slice ah nh ch,.slice dh mh lh,.bool wh]
theorem VX.sh {w0 w:World} {F:Nat} {c:List Value} {v:PV} {S:Nat} (h:VX w0 w F c v S):Sh13 c:=by
 obtain ⟨pO,aO,nO,cO,dO,mO,lO,pl,al,nl,cl,dl,ml,ll,ph,ah,nh,ch,dh,mh,lh,e,_⟩:=h
 exact ⟨_,_,_,_,_,_,_,_,_,_,_,_,_,_,_,_,_,_,_,_,_,_,_,_,_,e⟩
def VB (w:World) (F:Nat) (a:Option Addr) (n:Nat) (C:Nat→List Value):Prop :=
 n = 0∨∃ g cur,a = some ⟨g,0,none⟩∧F≤g∧w.heap[g]? = some (.cells cur 45 (0,0))∧(∀ j,j < n→(C j).length = 13∧w.rangeAt g (j * 13) (C j))
theorem VB.kb {w w':World} {F F':Nat} {L:List TypeId} {a:Option Addr} {n:Nat} {C:Nat→List Value} (h:VB w F a n C) (k:Kb F' L w w') (hL:45 ∉ L):VB w' F a n C:=by
 rcases h with h | ⟨g,cur,h1,h2,h3,h4⟩
 ·exact .inl h
 ·have e:=k.high g _ _ _ h3 hL
  exact .inr ⟨g,cur,h1,h2,e.trans h3,fun j hj=>⟨(h4 j hj).1,fun i u hu=>(World.cell?_of_block e).trans ((h4 j hj).2 i u hu)⟩⟩
theorem VB.keptY {w w':World} {F:Nat} {a:Option Addr} {n:Nat} {C:Nat→List Value} (h:VB w F a n C) (k:KeptY F w w'):VB w' F a n C:=by
 rcases h with h | ⟨g,cur,h1,h2,h3,h4⟩
 ·exact .inl h
 ·have e:=k.same g h2 (Array.getElem?_eq_some_iff.1 h3).1
  exact .inr ⟨g,cur,h1,h2,e.trans h3,fun j hj=>⟨(h4 j hj).1,fun i u hu=>(World.cell?_of_block e).trans ((h4 j hj).2 i u hu)⟩⟩
def Std (w0 w:World) (F:Nat) (P:Prob) (ZT:Nat→Nat) (k:Nat) (B:Nat→BxV) (Z:Nat→Nat) (C:Nat→List Value):Prop :=
 (∀ j,j < P.vn→VX w0 w F (C j) ((P.box B).V j) (Z j))∧tot Z P.vn≤tot P.ZV P.vn + tot ZT k
theorem Std.kb {w0 w w':World} {F F':Nat} {L:List TypeId} {P:Prob} {ZT:Nat→Nat} {k:Nat} {B:Nat→BxV} {Z:Nat→Nat} {C:Nat→List Value} (h:Std w0 w F P ZT k B Z C) (hk:Kb F' L w w') (hL:80 ∉ L):Std w0 w' F P ZT k B Z C:=⟨fun j hj=>(h.1 j hj).kb hk hL,h.2⟩
theorem Std.keptY {w0 w w':World} {F:Nat} {P:Prob} {ZT:Nat→Nat} {k:Nat} {B:Nat→BxV} {Z:Nat→Nat} {C:Nat→List Value} (h:Std w0 w F P ZT k B Z C) (hk:KeptY F w w'):Std w0 w' F P ZT k B Z C:=⟨fun j hj=>(h.1 j hj).keptY hk,h.2⟩
structure WyD where
 p:Nat
 va:Option Addr
 vc:Nat
 pa:Option Addr
 pc:Nat
 ha:Option Addr
 hc:Nat
 d:Nat
 hn:Nat
 C:Nat→List Value
 pv:Nat→Nat
 pw:Nat→List Value
 f:Nat→Prt
def WyD.cells (x:WyD) (P:Prob):Array Value:=#[.bool P.mx,.string P.nm,.bool P.p,.slice P.a P.na P.ca,.slice P.d P.nd P.cd,.slice x.va P.vn x.vc,.slice P.ra P.rn P.rc,.slice x.pa x.d x.pc,.slice x.ha x.hn x.hc]
structure PrQ (w0 w:World) (F:Nat) (P:Prob) (T:Nat→Nod) (ZT:Nat→Nat) (x:WyD) (i:Nat):Prop where
 rc:Bx P T (x.f i).par (x.f i).B
 sp:(T (x.f i).par).sp = true
 ad:(x.f i).abv≤x.d
 ap:(x.f i).abv≤(x.f i).par
 ia:i≤(x.f i).abv + 1
 sd:Std w0 w F P ZT (x.f i).par (x.f i).B (x.f i).Z (und x.pv x.pw (x.f i).abv x.d x.C)
structure WyQ (w0 w:World) (F:Nat) (P:Prob) (T:Nat→Nod) (ZT:Nat→Nat) (x:WyD):Prop where
 st:Rw 97 w x.p (x.cells P)
 pF:F≤x.p
 vs:VB w F x.va P.vn x.C
 vcc:P.vn≤x.vc
 ps:SL w F 155 14 (.slice x.pa x.d x.pc) x.d (fun i=>.int .i64 (x.pv i:Nat) :: x.pw i)
 pl:∀ i,i < x.d→x.pv i < P.vn∧Sh13 (x.pw i)
 ah:SL w F 114 3 (.slice x.ha x.hn x.hc) x.hn (fun i=>[.int .i64 ((x.f i).par:Nat),.int .i64 ((x.f i).abv:Nat),.bool (x.f i).rt])
 pt:∀ i,i < x.hn→PrQ w0 w F P T ZT x i
 mo:∀ i j,i≤j→j < x.hn→(x.f i).abv≤(x.f j).abv
theorem WyQ.keptY {w0 w w':World} {F:Nat} {P:Prob} {T:Nat→Nod} {ZT:Nat→Nat} {x:WyD} (h:WyQ w0 w F P T ZT x) (k:KeptY F w w'):WyQ w0 w' F P T ZT x :=
 ⟨h.st.keptY k h.pF,h.pF,h.vs.keptY k,h.vcc,h.ps.keptY k,h.pl,h.ah.keptY k,fun i hi=>⟨(h.pt i hi).rc,(h.pt i hi).sp,(h.pt i hi).ad,(h.pt i hi).ap,(h.pt i hi).ia,(h.pt i hi).sd.keptY k⟩,h.mo⟩
theorem WyQ.below {w0 w w':World} {F:Nat} {P:Prob} {T:Nat→Nod} {ZT:Nat→Nat} {x:WyD} (h:WyQ w0 w F P T ZT x) (k:Below w.heap.size w w'):WyQ w0 w' F P T ZT x:=h.keptY (KeptY.of_below k)
def WyD.prob (x:WyD) (P:Prob) (B:Nat→BxV) (Z:Nat→Nat) (K:Nat):Prob:={ P.box B with va:=x.va,vc:=x.vc,ZV:=Z,K:=K }
theorem fH (b:Nat):∀ (vs:List Value) (o:Nat) (w:World),Off b w (w.setCells b o vs)
 | [],_,w=>Off.refl b w
 | v :: r,o,w=>((Off.refl b w).set o v).trans (fH b r (o + 1) _)
theorem SL.take {w:World} {B:Nat} {T:TypeId} {c:Nat} {a:Option Addr} {n cap m:Nat} {E:Nat→List Value} (h:SL w B T c (.slice a n cap) n E) (hm:m≤n):SL w B T c (.slice a m cap) m E:=by
 obtain ⟨vs,h1,h2⟩:=h
 rcases h1.2 with ⟨e1,e2⟩ | ⟨g,cp,cur,e1,e2,hgb,hcap,hmx,hcs,htk⟩
 ·simp only [Value.slice.injEq] at e1
  obtain ⟨rfl,rfl,rfl⟩:=e1
  obtain rfl:m = 0:=by omega
  exact SL.nil _ _ _ _ _
 ·simp only [Value.slice.injEq] at e1
  obtain ⟨rfl,_,rfl⟩:=e1
  have hl:=h1.1
  have hmc:m * c≤n * c:=Nat.mul_le_mul_right c hm
  refine ⟨vs.take (m * c),⟨by rw [List.length_take];omega,.inr ⟨g,cap,cur,rfl,e2,hgb,by omega,hmx,hcs,?_⟩⟩,fun i hi j u hu=>?_⟩
  ·first
    | (rw [← htk,List.take_take];congr 1;omega)
    | (rw [htk,List.take_take];congr 1;omega)
    | skip
  ·obtain ⟨h3,h4⟩:=h2 i (by omega) j u hu
   refine ⟨h3,?_⟩
   have h5:(i + 1) * c≤m * c:=Nat.mul_le_mul_right c hi
   rw [Nat.add_mul,Nat.one_mul] at h5
   rw [List.getElem?_take,if_pos (by omega)]
   exact h4
end Go.Proofs.YtnokmjmefipplaaGreatDoor
