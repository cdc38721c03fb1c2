import Derived.Test.YtceigfafmalfgaaGreatDoorR3SuAll
import Derived.Test.YtceigfafmalfgaaGreatDoorRatAll
namespace Go.Proofs.YtceigfafmalfgaaGreatDoor
open Go.RowKit
def EL (w:World) (B:Nat) (p:Bool) (a:Option Addr) (na ca:Nat) (d:Option Addr) (nd cd:Nat) (r:Rat) (S:Nat):Prop :=
 GR w B p a na ca d nd cd r S∨∀ w',Below B w w'→TR w' p a na ca d nd cd r S
theorem EL.tr {w:World} {B:Nat} {p:Bool} {a:Option Addr} {na ca:Nat} {d:Option Addr} {nd cd:Nat} {r:Rat} {S:Nat} (h:EL w B p a na ca d nd cd r S):TR w p a na ca d nd cd r S:=by
 rcases h with h|h
 ·exact h.tr
 ·exact h w (Below.refl _ _)
theorem EL.below {w w':World} {B:Nat} {p:Bool} {a:Option Addr} {na ca:Nat} {d:Option Addr} {nd cd:Nat} {r:Rat} {S:Nat} (h:EL w B p a na ca d nd cd r S) (hB:B≤w.heap.size) (hb:Below w.heap.size w w'):EL w' B p a na ca d nd cd r S:=by
 rcases h with h|h
 ·exact .inl (h.below hb)
 ·exact .inr fun w2 h2=>h w2 ((hb.mono hB).trans h2)
theorem EL.grow {w w':World} {B:Nat} {p:Bool} {a:Option Addr} {na ca:Nat} {d:Option Addr} {nd cd:Nat} {r:Rat} {S:Nat} (h:EL w B p a na ca d nd cd r S) (hB:B≤w.heap.size) {lv:Value} {n:Nat} {ys:List Value} (k:w.ownsRow B 27 3 lv n ys) (hg:w.grownBy w' lv.ownBlock):EL w' B p a na ca d nd cd r S:=by
 rcases h with h|h
 ·exact .inl (h.grow3 k hg)
 ·exact .inr fun w2 h2=>h w2 ((grown_below hg hB (fun g hg=>(World.ownsRow.lt k g hg).1)).trans h2)
def ML (w:World) (B:Nat) (v:Value) (n:Nat) (X:Nat→Rat) (S:Nat):Prop :=
 ∃ vs:List Value,w.ownsRow B 27 3 v n vs∧∀ i,i<n→∃ p a na ca d nd cd,vs[i*3]? = some (.bool p)∧vs[i*3+1]? = some (.slice a na ca)∧vs[i*3+2]? = some (.slice d nd cd)∧EL w B p a na ca d nd cd (X i) S
theorem RL.ml {w:World} {B:Nat} {v:Value} {n:Nat} {X:Nat→Rat} {S:Nat} (h:RL w B v n X S):ML w B v n X S:=by
 obtain ⟨vs,h1,h2⟩:=h
 refine ⟨vs,h1,fun i hi=>?_⟩
 obtain ⟨p,a,na,ca,d,nd,cd,g1,g2,g3,g4⟩:=h2 i hi
 exact ⟨p,a,na,ca,d,nd,cd,g1,g2,g3,.inl g4⟩
theorem ML.congr {w:World} {B:Nat} {v:Value} {n:Nat} {X Y:Nat→Rat} {S:Nat} (h:ML w B v n X S) (e:∀ i,i<n→X i=Y i):ML w B v n Y S:=by
 obtain ⟨vs,h1,h2⟩:=h
 exact ⟨vs,h1,fun i hi=>by rw [← e i hi];exact h2 i hi⟩
theorem ML.below {w w':World} {B:Nat} {v:Value} {n:Nat} {X:Nat→Rat} {S:Nat} (h:ML w B v n X S) (hB:B≤w.heap.size) (hb:Below w.heap.size w w'):ML w' B v n X S:=by
 obtain ⟨vs,h1,h2⟩:=h
 refine ⟨vs,⟨h1.1,?_⟩,fun i hi=>?_⟩
 ·rcases h1.2 with hn|⟨g,cap,cur,e1,e2,hgb,rest⟩
  ·exact .inl hn
  ·exact .inr ⟨g,cap,cur,e1,e2,(hb.block g (Array.getElem?_eq_some_iff.1 hgb).1).trans hgb,rest⟩
 ·obtain ⟨p,a,na,ca,d,nd,cd,g1,g2,g3,g4⟩:=h2 i hi
  exact ⟨p,a,na,ca,d,nd,cd,g1,g2,g3,g4.below hB hb⟩
theorem ML.lt {w:World} {B:Nat} {v:Value} {n:Nat} {X:Nat→Rat} {S:Nat} (h:ML w B v n X S):∀ k,v.ownBlock=some k→B≤k∧k<w.heap.size:=by
 obtain ⟨vs,h1,h2⟩:=h
 exact World.ownsRow.lt h1
theorem ML.form {w:World} {B:Nat} {v:Value} {n:Nat} {X:Nat→Rat} {S:Nat} (h:ML w B v n X S):∃ a cap,v = .slice a n cap:=by
 obtain ⟨vs,h1,h2⟩:=h
 rcases h1.2 with ⟨rfl,rfl⟩|⟨g,cap,cur,e1,_⟩
 ·exact ⟨_,_,rfl⟩
 ·exact ⟨_,_,e1⟩
theorem ML.lq {w:World} {B:Nat} {a:Option Addr} {m n cap:Nat} {X:Nat→Rat} {S:Nat} (h:ML w B (.slice a m cap) n X S):LQ w a n X (fun _=>S):=by
 obtain ⟨vs,h1,h2⟩:=h
 rcases h1.2 with ⟨e1,e2⟩|⟨g,cap,cur,e1,_,hg,_,_,_,ht⟩
 ·exact .inl e2
 ·simp only [Value.slice.injEq] at e1
  obtain ⟨rfl,_,_⟩:=e1
  refine .inr ⟨g,0,rfl,fun i hi=>?_⟩
  obtain ⟨p,a,na,ca,d,nd,cd,g1,g2,g3,g4⟩:=h2 i hi
  refine ⟨p,a,na,ca,d,nd,cd,?_,?_,?_,g4.tr⟩
  ·rw [Nat.zero_add];exact row_cell hg ht g1
  ·rw [Nat.zero_add];exact row_cell hg ht g2
  ·rw [Nat.zero_add];exact row_cell hg ht g3
theorem step_appendM (w:World) {ops:Array Oper} {o:Oper} {a:Act} {K:Act→World→Prop} {Q:Exit→Act→World→Prop} {E:Prop} (hgd:o.guard=none) (s x:Operand)
  (ho:o.op = .call { callee:=.builtin .append,args:=#[s,x],argTypes:=#[97,97] }) (B:Nat) (v:Value) (n:Nat) (X:Nat→Rat) (S:Nat) (hs:a.eval s=v) (hown:ML w B v n X S) (h c:Nat) (hx:a.eval x = .slice (some ⟨h,0,none⟩) 1 c)
  (f:Bool) (c1:Option Addr) (n1 k1:Nat) (c2:Option Addr) (n2 k2:Nat) (r:Rat) (hc:w.cell? ⟨h,0,none⟩=some (.bool f)∧w.cell? ⟨h,1,none⟩=some (.slice c1 n1 k1)∧w.cell? ⟨h,2,none⟩=some (.slice c2 n2 k2)) (hG:EL w B f c1 n1 k1 c2 n2 k2 r S)
  (hlen:n≤1000000000000) (hB:B≤w.heap.size) (H:Nat) (hH:w.heap.size=H)
  (hK:∀ g cap w',ML w' B (.slice (some ⟨g,0,none⟩) (n+1) cap) (n+1) (fun i=>if i<n then X i else r) S→w.grownBy w' v.ownBlock→(v.ownBlock=some g∨g=H)→g<w'.heap.size→K (a.put o.dst (.slice (some ⟨g,0,none⟩) (n+1) cap)) w') :
  if Region.wanted o (yielded ops a.tmps)=true then Oper.wp Tryz.prog o a w K Q else E:=by
 obtain ⟨vs,h1,h2⟩:=hown
 obtain ⟨i0,z,hi,hz,hs3,hb56,hz3⟩:=info3
 refine step_append_lies w hgd s x 97 ho B 27 i0 z 3 56 Tryz.underlying97 hi hz hs3 hb56 hz3 (by decide) v n vs hs h1 ⟨h,0,none⟩ 1 c [.bool f,.slice c1 n1 k1,.slice c2 n2 k2] hx rfl ?_ (fun u hu=>by simp at hu;rcases hu with rfl|rfl|rfl <;> rfl) (by decide) (by unfold maxLen;omega) (by omega) hB H hH ?_
 ·intro j u hj
  match j,hj with
  | 0,hj=>simp at hj;subst hj;simpa [Addr.add] using hc.1
  | 1,hj=>simp at hj;subst hj;simpa [Addr.add] using hc.2.1
  | 2,hj=>simp at hj;subst hj;simpa [Addr.add] using hc.2.2
 ·intro g cap w' r1 r2 r3 r4
  refine hK g cap w' ⟨_,r1,fun i hi=>?_⟩ r2 r3 r4
  rcases (by omega:i<n∨i=n) with hi|rfl
  ·obtain ⟨p,a,na,ca,d,nd,cd,g1,g2,g3,g4⟩:=h2 i hi
   have e:vs.length=n*3:=h1.1
   simp only [hi,if_true]
   refine ⟨p,a,na,ca,d,nd,cd,?_,?_,?_,g4.grow hB h1 r2⟩
   ·rw [List.getElem?_append_left (by omega)];exact g1
   ·rw [List.getElem?_append_left (by omega)];exact g2
   ·rw [List.getElem?_append_left (by omega)];exact g3
  ·obtain ⟨e1,e2,e3⟩:=vs_snoc (x:=.bool f) (y:=.slice c1 n1 k1) (z:=.slice c2 n2 k2) h1.1
   simp only [Nat.lt_irrefl,if_false]
   exact ⟨f,c1,n1,k1,c2,n2,k2,e1,e2,e3,hG.grow hB h1 r2⟩
theorem keep_ne {w w':World} {row:Option Nat} (hg:w.grownBy w' row) {p:Addr} {u:Value} (h:w.cell? p=some u) (hne:row≠some p.block):w'.cell? p=some u :=
 (World.cell?_of_block (hg.block p.block (World.block_lt_of_cell? _ _ h) (fun e=>hne e.symm))).trans h
end Go.Proofs.YtceigfafmalfgaaGreatDoor
namespace Go.Proofs.YtceigfafmalfgaaGreatDoor
end Go.Proofs.YtceigfafmalfgaaGreatDoor
namespace Go.Proofs.YtceigfafmalfgaaGreatDoor
open Go.RowKit
def cs (r s:Rat):Int:=(r.num*s.den-s.num*r.den).sign
theorem cs_tri (r s:Rat):cs r s = -1∨cs r s=0∨cs r s=1:=by
 have:=Int.sign_trichotomy (r.num*s.den-s.num*r.den)
 unfold cs;omega
theorem sign_neg_iff {a:Int}:a.sign<0↔a<0:=by
 constructor
 ·intro h
  exact Int.neg_of_sign_eq_neg_one (by have:=Int.sign_trichotomy a;omega)
 ·intro h
  rw [Int.sign_eq_neg_one_of_neg h];decide
theorem sign_pos_iff {a:Int}:0<a.sign↔0<a:=by
 constructor
 ·intro h
  exact Int.pos_of_sign_eq_one (by have:=Int.sign_trichotomy a;omega)
 ·intro h
  rw [Int.sign_eq_one_of_pos h];decide
theorem cs_lt {r s:Rat}:cs r s<0↔r<s:=by
 unfold cs;rw [sign_neg_iff,Rat.lt_iff];omega
theorem cs_gt {r s:Rat}:0<cs r s↔s<r:=by
 unfold cs;rw [sign_pos_iff,Rat.lt_iff];omega
theorem tri_ext {u v:Int} (hu:u = -1∨u=0∨u=1) (hv:v = -1∨v=0∨v=1) (h1:u<0↔v<0) (h2:0<u↔0<v):u=v:=by omega
theorem sg_tri (a:Int):a.sign = -1∨a.sign=0∨a.sign=1:=by
 have:=Int.sign_trichotomy a
 omega
theorem num_neg_iff {r:Rat}:r.num<0↔r<0:=by
 rw [← Rat.not_le,← Rat.num_nonneg];omega
theorem num_pos_iff {r:Rat}:0<r.num↔0<r:=by
 have h:=num_neg_iff (r:=-r)
 rw [Rat.neg_num] at h
 have e:-r<0↔0<r:=by
  have:=Rat.neg_lt_neg_iff (a:=r) (b:=0)
  rw [Rat.neg_zero] at this
  exact this
 rw [e] at h
 rw [← h];omega
theorem cs_sub (r s:Rat):(r-s).num.sign=cs r s:=by
 refine tri_ext (sg_tri _) (cs_tri r s) ?_ ?_
 ·rw [sign_neg_iff,num_neg_iff,cs_lt,Rat.lt_iff_sub_pos r s]
  have:=Rat.neg_lt_neg_iff (a:=s-r) (b:=0)
  rw [Rat.neg_zero,Rat.neg_sub] at this
  exact this
 ·rw [sign_pos_iff,num_pos_iff,cs_gt,Rat.lt_iff_sub_pos s r]
theorem rsignB (t:Int) {p:Bool} {a:Option Addr} {na ca:Nat} {d:Option Addr} {nd cd:Nat} {r:Rat} {S:Nat} (w:World) (hr:TR w p a na ca d nd cd r S) (hS:S≤9000000) (hS1:1≤S) (ht:t=r.num.sign) :
  Calls Tryz.prog 45 #[.agg #[.bool p,.slice a na ca,.slice d nd cd]] w fun e w'=>e = .returned (.int .i64 t)∧Below w.heap.size w w':=by
 refine (rsignR w hr hS hS1).mono ?_
 rintro e w' ⟨z,rfl,hz,hb⟩
 exact ⟨by rw [ht,hz],hb⟩
end Go.Proofs.YtceigfafmalfgaaGreatDoor
