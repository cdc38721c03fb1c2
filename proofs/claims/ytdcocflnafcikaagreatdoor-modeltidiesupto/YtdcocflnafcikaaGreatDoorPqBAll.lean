import Derived.Test.YtdcocflnafcikaaGreatDoorOpenPAll
import Derived.Test.YtdcocflnafcikaaGreatDoorRatAll
namespace Go.Proofs.YtdcocflnafcikaaGreatDoor
open Go.RowKit
def EL (w:World) (B:Nat) (p:Bool) (a:Option Addr) (na ca:Nat) (d:Option Addr) (nd cd:Nat) (r:Rat) (S:Nat):Prop :=
 GR w B p a na ca d nd cd r S∨∀ w',Below B w w'→TR w' p a na ca d nd cd r S
theorem EL.tr {w:World} {B:Nat} {p:Bool} {a:Option Addr} {na ca:Nat} {d:Option Addr} {nd cd:Nat} {r:Rat} {S:Nat} (h:EL w B p a na ca d nd cd r S):TR w p a na ca d nd cd r S:=by
 rcases h with h|h
 ·exact h.tr
 ·exact h w (Below.refl _ _)
theorem EL.below {w w':World} {B:Nat} {p:Bool} {a:Option Addr} {na ca:Nat} {d:Option Addr} {nd cd:Nat} {r:Rat} {S:Nat} (h:EL w B p a na ca d nd cd r S) (hB:B≤w.heap.size) (hb:Below w.heap.size w w'):EL w' B p a na ca d nd cd r S:=by
 rcases h with h|h
 ·exact .inl (h.below hb)
 ·exact .inr fun w2 h2=>h w2 ((hb.mono hB).trans h2)
theorem EL.grow {w w':World} {B:Nat} {p:Bool} {a:Option Addr} {na ca:Nat} {d:Option Addr} {nd cd:Nat} {r:Rat} {S:Nat} (h:EL w B p a na ca d nd cd r S) (hB:B≤w.heap.size) {lv:Value} {n:Nat} {ys:List Value} (k:w.ownsRow B 27 3 lv n ys) (hg:w.grownBy w' lv.ownBlock):EL w' B p a na ca d nd cd r S:=by
 rcases h with h|h
 ·exact .inl (h.grow3 k hg)
 ·exact .inr fun w2 h2=>h w2 ((grown_below hg hB (fun g hg=>(World.ownsRow.lt k g hg).1)).trans h2)
def ML (w:World) (B:Nat) (v:Value) (n:Nat) (X:Nat→Rat) (S:Nat):Prop :=
 ∃ vs:List Value,w.ownsRow B 27 3 v n vs∧∀ i,i<n→∃ p a na ca d nd cd,vs[i*3]? = some (.bool p)∧vs[i*3+1]? = some (.slice a na ca)∧vs[i*3+2]? = some (.slice d nd cd)∧EL w B p a na ca d nd cd (X i) S
theorem RL.ml {w:World} {B:Nat} {v:Value} {n:Nat} {X:Nat→Rat} {S:Nat} (h:RL w B v n X S):ML w B v n X S:=by
 obtain ⟨vs,h1,h2⟩:=h
 refine ⟨vs,h1,fun i hi=>?_⟩
 obtain ⟨p,a,na,ca,d,nd,cd,g1,g2,g3,g4⟩:=h2 i hi
 exact ⟨p,a,na,ca,d,nd,cd,g1,g2,g3,.inl g4⟩
theorem ML.congr {w:World} {B:Nat} {v:Value} {n:Nat} {X Y:Nat→Rat} {S:Nat} (h:ML w B v n X S) (e:∀ i,i<n→X i=Y i):ML w B v n Y S:=by
 obtain ⟨vs,h1,h2⟩:=h
 exact ⟨vs,h1,fun i hi=>by rw [← e i hi];exact h2 i hi⟩
theorem ML.below {w w':World} {B:Nat} {v:Value} {n:Nat} {X:Nat→Rat} {S:Nat} (h:ML w B v n X S) (hB:B≤w.heap.size) (hb:Below w.heap.size w w'):ML w' B v n X S:=by
 obtain ⟨vs,h1,h2⟩:=h
 refine ⟨vs,⟨h1.1,?_⟩,fun i hi=>?_⟩
 ·rcases h1.2 with hn|⟨g,cap,cur,e1,e2,hgb,rest⟩
  ·exact .inl hn
  ·exact .inr ⟨g,cap,cur,e1,e2,(hb.block g (Array.getElem?_eq_some_iff.1 hgb).1).trans hgb,rest⟩
 ·obtain ⟨p,a,na,ca,d,nd,cd,g1,g2,g3,g4⟩:=h2 i hi
  exact ⟨p,a,na,ca,d,nd,cd,g1,g2,g3,g4.below hB hb⟩
theorem ML.lt {w:World} {B:Nat} {v:Value} {n:Nat} {X:Nat→Rat} {S:Nat} (h:ML w B v n X S):∀ k,v.ownBlock=some k→B≤k∧k<w.heap.size:=by
 obtain ⟨vs,h1,h2⟩:=h
 exact World.ownsRow.lt h1
theorem ML.form {w:World} {B:Nat} {v:Value} {n:Nat} {X:Nat→Rat} {S:Nat} (h:ML w B v n X S):∃ a cap,v = .slice a n cap:=by
 obtain ⟨vs,h1,h2⟩:=h
 rcases h1.2 with ⟨rfl,rfl⟩|⟨g,cap,cur,e1,_⟩
 ·exact ⟨_,_,rfl⟩
 ·exact ⟨_,_,e1⟩
theorem ML.lq {w:World} {B:Nat} {a:Option Addr} {m n cap:Nat} {X:Nat→Rat} {S:Nat} (h:ML w B (.slice a m cap) n X S):LQ w a n X (fun _=>S):=by
 obtain ⟨vs,h1,h2⟩:=h
 rcases h1.2 with ⟨e1,e2⟩|⟨g,cap,cur,e1,_,hg,_,_,_,ht⟩
 ·exact .inl e2
 ·simp only [Value.slice.injEq] at e1
  obtain ⟨rfl,_,_⟩:=e1
  refine .inr ⟨g,0,rfl,fun i hi=>?_⟩
  obtain ⟨p,a,na,ca,d,nd,cd,g1,g2,g3,g4⟩:=h2 i hi
  refine ⟨p,a,na,ca,d,nd,cd,?_,?_,?_,g4.tr⟩
  ·rw [Nat.zero_add];exact iW hg ht g1
  ·rw [Nat.zero_add];exact iW hg ht g2
  ·rw [Nat.zero_add];exact iW hg ht g3
theorem uI (w:World) {ops:Array Oper} {o:Oper} {a:Act} {K:Act→World→Prop} {Q:Exit→Act→World→Prop} {E:Prop} (hgd:o.guard=none) (s x:Operand)
 (ho:o.op = .call { callee:=.builtin .append,args:=#[s,x],argTypes:=#[43,43] }) (B:Nat) (v:Value) (n:Nat) (X:Nat→Rat) (S:Nat) (hs:a.eval s=v) (hown:ML w B v n X S) (h c:Nat) (hx:a.eval x = .slice (some ⟨h,0,none⟩) 1 c)
 (f:Bool) (c1:Option Addr) (n1 k1:Nat) (c2:Option Addr) (n2 k2:Nat) (r:Rat) (hc:w.cell? ⟨h,0,none⟩=some (.bool f)∧w.cell? ⟨h,1,none⟩=some (.slice c1 n1 k1)∧w.cell? ⟨h,2,none⟩=some (.slice c2 n2 k2)) (hG:EL w B f c1 n1 k1 c2 n2 k2 r S)
 (hlen:n≤1000000000000) (hB:B≤w.heap.size) (H:Nat) (hH:w.heap.size=H)
 (hK:∀ g cap w',ML w' B (.slice (some ⟨g,0,none⟩) (n+1) cap) (n+1) (fun i=>if i<n then X i else r) S→w.grownBy w' v.ownBlock→(v.ownBlock=some g∨g=H)→g<w'.heap.size→K (a.put o.dst (.slice (some ⟨g,0,none⟩) (n+1) cap)) w') :
 if Region.wanted o (yielded ops a.tmps)=true then Oper.wp Tryz.prog o a w K Q else E:=by
 obtain ⟨vs,h1,h2⟩:=hown
 obtain ⟨i0,z,hi,hz,hs3,hb56,hz3⟩:=info3
 refine step_append_lies w hgd s x 43 ho B 27 i0 z 3 56 Tryz.underlying43 hi hz hs3 hb56 hz3 (by decide) v n vs hs h1 ⟨h,0,none⟩ 1 c [.bool f,.slice c1 n1 k1,.slice c2 n2 k2] hx rfl ?_ (fun u hu=>by simp at hu;rcases hu with rfl|rfl|rfl <;> rfl) (by decide) (by unfold maxLen;omega) (by omega) hB H hH ?_
 ·intro j u hj
  match j,hj with
  | 0,hj=>simp at hj;subst hj;simpa [Addr.add] using hc.1
  | 1,hj=>simp at hj;subst hj;simpa [Addr.add] using hc.2.1
  | 2,hj=>simp at hj;subst hj;simpa [Addr.add] using hc.2.2
 ·intro g cap w' r1 r2 r3 r4
  refine hK g cap w' ⟨_,r1,fun i hi=>?_⟩ r2 r3 r4
  rcases (by omega:i<n∨i=n) with hi|rfl
  ·obtain ⟨p,a,na,ca,d,nd,cd,g1,g2,g3,g4⟩:=h2 i hi
   have e:vs.length=n*3:=h1.1
   simp only [hi,if_true]
   refine ⟨p,a,na,ca,d,nd,cd,?_,?_,?_,g4.grow hB h1 r2⟩
   ·rw [List.getElem?_append_left (by omega)];exact g1
   ·rw [List.getElem?_append_left (by omega)];exact g2
   ·rw [List.getElem?_append_left (by omega)];exact g3
  ·obtain ⟨e1,e2,e3⟩:=vs_snoc (x:=.bool f) (y:=.slice c1 n1 k1) (z:=.slice c2 n2 k2) h1.1
   simp only [Nat.lt_irrefl,if_false]
   exact ⟨f,c1,n1,k1,c2,n2,k2,e1,e2,e3,hG.grow hB h1 r2⟩
theorem aJ {w w':World} {row:Option Nat} (hg:w.grownBy w' row) {p:Addr} {u:Value} (h:w.cell? p=some u) (hne:row≠some p.block):w'.cell? p=some u :=
 (World.cell?_of_block (hg.block p.block (World.block_lt_of_cell? _ _ h) (fun e=>hne e.symm))).trans h
end Go.Proofs.YtdcocflnafcikaaGreatDoor
namespace Go.Proofs.YtdcocflnafcikaaGreatDoor
end Go.Proofs.YtdcocflnafcikaaGreatDoor
namespace Go.Proofs.YtdcocflnafcikaaGreatDoor
open Go.RowKit
def cs (r s:Rat):Int:=(r.num*s.den-s.num*r.den).sign
theorem cs_tri (r s:Rat):cs r s = -1∨cs r s=0∨cs r s=1:=by
 have:=Int.sign_trichotomy (r.num*s.den-s.num*r.den)
 unfold cs;omega
theorem lT {a:Int}:a.sign<0↔a<0:=by
 constructor
 ·intro h
  exact Int.neg_of_sign_eq_neg_one (by have:=Int.sign_trichotomy a;omega)
 ·intro h
  rw [Int.sign_eq_neg_one_of_neg h];decide
theorem lU {a:Int}:0<a.sign↔0<a:=by
 constructor
 ·intro h
  exact Int.pos_of_sign_eq_one (by have:=Int.sign_trichotomy a;omega)
 ·intro h
  rw [Int.sign_eq_one_of_pos h];decide
theorem cs_lt {r s:Rat}:cs r s<0↔r<s:=by
 unfold cs;rw [lT,Rat.lt_iff];omega
theorem cs_gt {r s:Rat}:0<cs r s↔s<r:=by
 unfold cs;rw [lU,Rat.lt_iff];omega
theorem tri_ext {u v:Int} (hu:u = -1∨u=0∨u=1) (hv:v = -1∨v=0∨v=1) (h1:u<0↔v<0) (h2:0<u↔0<v):u=v:=by omega
theorem sg_tri (a:Int):a.sign = -1∨a.sign=0∨a.sign=1:=by
 have:=Int.sign_trichotomy a
 omega
theorem oD {r:Rat}:r.num<0↔r<0:=by
 rw [← Rat.not_le,← Rat.num_nonneg];omega
theorem wM {r:Rat}:0<r.num↔0<r:=by
 have h:=oD (r:=-r)
 rw [Rat.neg_num] at h
 have e:-r<0↔0<r:=by
  have:=Rat.neg_lt_neg_iff (a:=r) (b:=0)
  rw [Rat.neg_zero] at this
  exact this
 rw [e] at h
 rw [← h];omega
theorem cs_sub (r s:Rat):(r-s).num.sign=cs r s:=by
 refine tri_ext (sg_tri _) (cs_tri r s) ?_ ?_
 ·rw [lT,oD,cs_lt,Rat.lt_iff_sub_pos r s]
  have:=Rat.neg_lt_neg_iff (a:=s-r) (b:=0)
  rw [Rat.neg_zero,Rat.neg_sub] at this
  exact this
 ·rw [lU,wM,cs_gt,Rat.lt_iff_sub_pos s r]
theorem rsignB (t:Int) {p:Bool} {a:Option Addr} {na ca:Nat} {d:Option Addr} {nd cd:Nat} {r:Rat} {S:Nat} (w:World) (hr:TR w p a na ca d nd cd r S) (hS:S≤9000000) (hS1:1≤S) (ht:t=r.num.sign) :
 Calls Tryz.prog 67 #[.agg #[.bool p,.slice a na ca,.slice d nd cd]] w fun e w'=>e = .returned (.int .i64 t)∧Below w.heap.size w w':=by
 refine (rsignR w hr hS hS1).mono ?_
 rintro e w' ⟨z,rfl,hz,hb⟩
 exact ⟨by rw [ht,hz],hb⟩
def BoxC (w:World) (R:Nat) (cs:List Value):Prop:=∀ i u,cs[i]? = some u→w.cell? ⟨R,i,none⟩=some u
theorem aN (w:World) (cs:Array Value) (t:TypeId):BoxC (w.alloc (.cells cs t)) w.heap.size cs.toList:=by
 intro i u hu
 have h:(w.alloc (.cells cs t)).heap[w.heap.size]? = some (.cells cs t):=heap_alloc_new _ _
 unfold World.cell?
 rw [h]
 simpa using hu
theorem BoxC.below {w w':World} {R:Nat} {cs:List Value} (h:BoxC w R cs) (hb:Below w.heap.size w w'):BoxC w' R cs:=fun i u hu=>aB hb (h i u hu)
theorem boxc3 (w:World) (c0:Array Value) (t0:TypeId) (c1:Array Value) (t1:TypeId) (c2:Array Value) (t2:TypeId):let W:=((w.alloc (.cells c0 t0)).alloc (.cells c1 t1)).alloc (.cells c2 t2);BoxC W w.heap.size c0.toList∧BoxC W (w.heap.size+1) c1.toList∧BoxC W (w.heap.size+2) c2.toList∧Below w.heap.size w W∧W.heap.size=w.heap.size+3:=by
 have e1:(w.alloc (.cells c0 t0)).heap.size=w.heap.size+1:=by simp
 have e2:((w.alloc (.cells c0 t0)).alloc (.cells c1 t1)).heap.size=w.heap.size+2:=by simp
 have P1:=aN (w.alloc (.cells c0 t0)) c1 t1
 have P2:=aN ((w.alloc (.cells c0 t0)).alloc (.cells c1 t1)) c2 t2
 rw [e1] at P1
 rw [e2] at P2
 exact ⟨((aN w c0 t0).below (aG _ _)).below (aG _ _),P1.below (aG _ _),P2,eG (eG (aG _ _)),by simp⟩
def Inf (T:TypeId) (c y:Nat):Prop:=∃ i z,Tryz.prog.info? T=some i∧i.zero=some z∧i.size=c∧i.bytes=y∧z.cells.size=c
theorem iG {T:TypeId} {c y:Nat} (h:(Tryz.prog.info? T).map (fun i=>(i.zero.map (fun z=>z.cells.size),i.size,i.bytes))=some (some c,c,y)):Inf T c y:=by
 obtain ⟨i,hi,h⟩:=Option.map_eq_some_iff.1 h
 simp only [Prod.mk.injEq] at h
 obtain ⟨h1,h2,h3⟩:=h
 obtain ⟨z,hz,h4⟩:=Option.map_eq_some_iff.1 h1
 exact ⟨i,z,hi,hz,h2,h3,h4⟩
def SL (w:World) (B:Nat) (T:TypeId) (c:Nat) (v:Value) (n:Nat) (E:Nat→List Value):Prop :=
 ∃ vs:List Value,w.ownsRow B T c v n vs∧∀ i,i<n→∀ j u,(E i)[j]? = some u→j<c∧vs[i*c+j]? = some u
theorem SL.nil (w:World) (B:Nat) (T:TypeId) (c:Nat) (E:Nat→List Value):SL w B T c (.slice none 0 0) 0 E:=⟨[],World.ownsRow_nil _ _ _ _,fun i hi=>by omega⟩
theorem SL.below {w w':World} {B:Nat} {T:TypeId} {c:Nat} {v:Value} {n:Nat} {E:Nat→List Value} (h:SL w B T c v n E) (hb:Below w.heap.size w w'):SL w' B T c v n E:=by
 obtain ⟨vs,h1,h2⟩:=h
 refine ⟨vs,⟨h1.1,?_⟩,h2⟩
 rcases h1.2 with hn|⟨g,cap,cur,e1,e2,hgb,rest⟩
 ·exact .inl hn
 ·exact .inr ⟨g,cap,cur,e1,e2,(hb.block g (Array.getElem?_eq_some_iff.1 hgb).1).trans hgb,rest⟩
theorem SL.form {w:World} {B:Nat} {T:TypeId} {c:Nat} {v:Value} {n:Nat} {E:Nat→List Value} (h:SL w B T c v n E):∃ a cap,v = .slice a n cap∧n≤cap:=by
 obtain ⟨vs,h1,h2⟩:=h
 rcases h1.2 with ⟨rfl,rfl⟩|⟨g,cap,cur,e1,_,_,h3,_⟩
 ·exact ⟨_,_,rfl,Nat.le_refl _⟩
 ·exact ⟨_,_,e1,h3⟩
theorem SL.lt {w:World} {B:Nat} {T:TypeId} {c:Nat} {v:Value} {n:Nat} {E:Nat→List Value} (h:SL w B T c v n E):∀ k,v.ownBlock=some k→B≤k∧k<w.heap.size:=by
 obtain ⟨vs,h1,h2⟩:=h
 exact World.ownsRow.lt h1
theorem SL.mono {w:World} {B B':Nat} {T:TypeId} {c:Nat} {v:Value} {n:Nat} {E:Nat→List Value} (h:SL w B T c v n E) (hB:B'≤B):SL w B' T c v n E:=by
 obtain ⟨vs,h1,h2⟩:=h
 refine ⟨vs,⟨h1.1,?_⟩,h2⟩
 rcases h1.2 with hn|⟨g,cap,cur,e1,e2,rest⟩
 ·exact .inl hn
 ·exact .inr ⟨g,cap,cur,e1,by omega,rest⟩
theorem SL.cell {w:World} {B:Nat} {T:TypeId} {c:Nat} {a:Option Addr} {m n cap:Nat} {E:Nat→List Value} (h:SL w B T c (.slice a m cap) n E):n=0∨∃ g,a=some ⟨g,0,none⟩∧∀ i,i<n→∀ j u,(E i)[j]? = some u→w.cell? ⟨g,i*c+j,none⟩=some u:=by
 obtain ⟨vs,h1,h2⟩:=h
 rcases h1.2 with ⟨e1,e2⟩|⟨g,cap,cur,e1,_,hg,_,_,_,ht⟩
 ·exact .inl e2
 ·simp only [Value.slice.injEq] at e1
  obtain ⟨rfl,_,_⟩:=e1
  exact .inr ⟨g,rfl,fun i hi j u hu=>iW hg ht (h2 i hi j u hu).2⟩
theorem SL.congr {w:World} {B:Nat} {T:TypeId} {c:Nat} {v:Value} {n:Nat} {E F:Nat→List Value} (h:SL w B T c v n E) (e:∀ i,i<n→E i=F i):SL w B T c v n F:=by
 obtain ⟨vs,h1,h2⟩:=h
 exact ⟨vs,h1,fun i hi=>by rw [← e i hi];exact h2 i hi⟩
theorem SL.kept {w w':World} {B:Nat} {T:TypeId} {c:Nat} {v:Value} {n:Nat} {E:Nat→List Value} (h:SL w B T c v n E) {row:Option Nat} (hg:w.grownBy w' row) (hne:∀ g,v.ownBlock=some g→row≠some g):SL w' B T c v n E:=by
 obtain ⟨vs,h1,h2⟩:=h
 refine ⟨vs,World.ownsRow.kept h1 hg ?_,h2⟩
 cases e:v.ownBlock with
 | none=>exact .inl rfl
 | some g=>exact .inr fun e2=>hne g e e2.symm
theorem zN {w:World} {B B':Nat} {T U:TypeId} {c d:Nat} {v u:Value} {n m:Nat} {xs ys:List Value} (h:w.ownsRow B T c v n xs) (k:w.ownsRow B' U d u m ys) (hT:T≠U):∀ g,v.ownBlock=some g→u.ownBlock≠some g:=by
 intro g h1 h2
 rcases h.2 with ⟨e1,_⟩|⟨g1,c1,cur1,e1,_,f1,_⟩
 ·subst e1;simp [Value.ownBlock] at h1
 ·rcases k.2 with ⟨e2,_⟩|⟨g2,c2,cur2,e2,_,f2,_⟩
  ·subst e2;simp [Value.ownBlock] at h2
  ·subst e1 e2
   simp [Value.ownBlock] at h1 h2
   subst h1 h2
   rw [f1] at f2
   simp only [Option.some.injEq,Obj.cells.injEq] at f2
   exact hT f2.2.1
theorem uJ {c n:Nat} {vs cs:List Value} {E:Nat→List Value} (hl:vs.length=n*c) (hcs:cs.length=c) (h2:∀ i,i<n→∀ j u,(E i)[j]? = some u→j<c∧vs[i*c+j]? = some u) :
 ∀ i,i<n+1→∀ j u,((fun i=>if i<n then E i else cs) i)[j]? = some u→j<c∧(vs++cs)[i*c+j]? = some u:=by
 intro i hi j u hu
 rcases (by omega:i<n∨i=n) with h|rfl
 ·simp only [h,if_true] at hu
  obtain ⟨h3,h4⟩:=h2 i h j u hu
  refine ⟨h3,?_⟩
  have h5:(i+1)*c≤n*c:=Nat.mul_le_mul_right c h
  rw [Nat.add_mul,Nat.one_mul] at h5
  rw [List.getElem?_append_left (by omega)]
  exact h4
 ·simp only [Nat.lt_irrefl,if_false] at hu
  have h3:j<cs.length:=(List.getElem?_eq_some_iff.1 hu).1
  refine ⟨by omega,?_⟩
  rw [List.getElem?_append_right (by omega),hl,Nat.add_sub_cancel_left]
  exact hu
theorem aV (w:World) {ops:Array Oper} {rest:List Oper} {o:Oper} {a:Act} {Q:Exit→Act→World→Prop} (hgd:o.guard=none) (s x:Operand) (L T:TypeId) (c y:Nat)
 (ho:o.op = .call { callee:=.builtin .append,args:=#[s,x],argTypes:=#[L,L] }) (hL:Tryz.prog.underlying L=some (.slice T)) (hI:Inf T c y) (hc0:0<c) (hy:y≤1000)
 (B:Nat) (v:Value) (n:Nat) (E:Nat→List Value) (hs:a.eval s=v) (hown:SL w B T c v n E) (h k:Nat) (hx:a.eval x = .slice (some ⟨h,0,none⟩) 1 k)
 (cs:List Value) (hcs:cs.length=c) (h1:∀ u ∈ cs,u.oneCell'=true) (hbox:BoxC w h cs)
 (hlen:n≤1000000000) (hB:B≤w.heap.size) (H:Nat) (hH:w.heap.size=H)
 (hK:∀ g cap w',SL w' B T c (.slice (some ⟨g,0,none⟩) (n+1) cap) (n+1) (fun i=>if i<n then E i else cs)→w.grownBy w' v.ownBlock→(v.ownBlock=some g∨g=H)→g<w'.heap.size→wpList Tryz.prog ops Q rest (a.put o.dst (.slice (some ⟨g,0,none⟩) (n+1) cap)) w') :
 wpList Tryz.prog ops Q (o::rest) a w:=by
 obtain ⟨vs,g1,g2⟩:=hown
 obtain ⟨i0,z,hi,hz,hs3,hb56,hz3⟩:=hI
 have hyn:(n+1)*y≤1000000001*1000:=Nat.mul_le_mul (by omega) hy
 refine wpList_append_lies w hgd s x L ho B T i0 z c y hL hi hz hs3 hb56 hz3 hc0 v n vs hs g1 ⟨h,0,none⟩ 1 k cs hx (by omega) ?_ h1 (by decide) (by unfold maxLen;omega) (by omega) hB H hH ?_
 ·intro j u hj
  have:=hbox j u hj
  by_cases e:j=0
  ·subst e;simpa [Addr.add] using this
  ·simpa [Addr.add,e] using this
 ·intro g cap w' r1 r2 r3 r4
  exact hK g cap w' ⟨_,r1,uJ g1.1 hcs g2⟩ r2 r3 r4
theorem kJ:Inf 62 4 64:=iG (by kernel_rfl)
theorem qM:Inf 57 13 208:=iG (by kernel_rfl)
theorem kW:Inf 60 10 168:=iG (by kernel_rfl)
end Go.Proofs.YtdcocflnafcikaaGreatDoor
