import Derived.Test.YtmeimjakdheidaaGreatDoorOpenPAll
import Derived.Test.YtmeimjakdheidaaGreatDoorRatAll
set_option maxHeartbeats 4000000
namespace Go.Proofs.YtmeimjakdheidaaGreatDoor
open Go.RowKit
def EL (w:World) (B:Nat) (p:Bool) (a:Option Addr) (na ca:Nat) (d:Option Addr) (nd cd:Nat) (r:Rat) (S:Nat):Prop :=
 GR w B p a na ca d nd cd r S∨∀ w',Below B w w'→TR w' p a na ca d nd cd r S
theorem EL.tr {w:World} {B:Nat} {p:Bool} {a:Option Addr} {na ca:Nat} {d:Option Addr} {nd cd:Nat} {r:Rat} {S:Nat} (h:EL w B p a na ca d nd cd r S):TR w p a na ca d nd cd r S:=by
 rcases h with h|h
 ·exact h.tr
 ·exact h w (Below.refl _ _)
theorem EL.of_tr {w:World} {B:Nat} {p:Bool} {a:Option Addr} {na ca:Nat} {d:Option Addr} {nd cd:Nat} {r:Rat} {S:Nat} (h:TR w p a na ca d nd cd r S) (hB:w.heap.size≤B):EL w B p a na ca d nd cd r S :=
 .inr fun _ hb=>h.below (hb.mono hB)
theorem EL.below {w w':World} {B:Nat} {p:Bool} {a:Option Addr} {na ca:Nat} {d:Option Addr} {nd cd:Nat} {r:Rat} {S:Nat} (h:EL w B p a na ca d nd cd r S) (hB:B≤w.heap.size) (hb:Below w.heap.size w w'):EL w' B p a na ca d nd cd r S:=by
 rcases h with h|h
 ·exact .inl (h.below hb)
 ·exact .inr fun w2 h2=>h w2 ((hb.mono hB).trans h2)
theorem EL.grow {w w':World} {B:Nat} {p:Bool} {a:Option Addr} {na ca:Nat} {d:Option Addr} {nd cd:Nat} {r:Rat} {S:Nat} (h:EL w B p a na ca d nd cd r S) (hB:B≤w.heap.size) {lv:Value} {n:Nat} {ys:List Value} (k:w.ownsRow B 27 3 lv n ys) (hg:w.grownBy w' lv.ownBlock):EL w' B p a na ca d nd cd r S:=by
 rcases h with h|h
 ·exact .inl (h.grow3 k hg)
 ·exact .inr fun w2 h2=>h w2 ((grown_below hg hB (fun g hg=>(World.ownsRow.lt k g hg).1)).trans h2)
def ML (w:World) (B:Nat) (v:Value) (n:Nat) (X:Nat→Rat) (S:Nat):Prop :=
 ∃ vs:List Value,w.ownsRow B 27 3 v n vs∧∀ i,i<n→∃ p a na ca d nd cd,vs[i*3]? = some (.bool p)∧vs[i*3+1]? = some (.slice a na ca)∧vs[i*3+2]? = some (.slice d nd cd)∧EL w B p a na ca d nd cd (X i) S
theorem RL.ml {w:World} {B:Nat} {v:Value} {n:Nat} {X:Nat→Rat} {S:Nat} (h:RL w B v n X S):ML w B v n X S:=by
 obtain ⟨vs,h1,h2⟩:=h
 refine ⟨vs,h1,fun i hi=>?_⟩
 obtain ⟨p,a,na,ca,d,nd,cd,g1,g2,g3,g4⟩:=h2 i hi
 exact ⟨p,a,na,ca,d,nd,cd,g1,g2,g3,.inl g4⟩
theorem ML.congr {w:World} {B:Nat} {v:Value} {n:Nat} {X Y:Nat→Rat} {S:Nat} (h:ML w B v n X S) (e:∀ i,i<n→X i=Y i):ML w B v n Y S:=by
 obtain ⟨vs,h1,h2⟩:=h
 exact ⟨vs,h1,fun i hi=>by rw [← e i hi];exact h2 i hi⟩
theorem RL.congr {w:World} {B:Nat} {v:Value} {n:Nat} {X Y:Nat→Rat} {S:Nat} (h:RL w B v n X S) (e:∀ i,i<n→X i=Y i):RL w B v n Y S:=by
 obtain ⟨vs,h1,h2⟩:=h
 exact ⟨vs,h1,fun i hi=>by rw [← e i hi];exact h2 i hi⟩
theorem ML.below {w w':World} {B:Nat} {v:Value} {n:Nat} {X:Nat→Rat} {S:Nat} (h:ML w B v n X S) (hB:B≤w.heap.size) (hb:Below w.heap.size w w'):ML w' B v n X S:=by
 obtain ⟨vs,h1,h2⟩:=h
 refine ⟨vs,⟨h1.1,?_⟩,fun i hi=>?_⟩
 ·rcases h1.2 with hn|⟨g,cap,cur,e1,e2,hgb,rest⟩
  ·exact .inl hn
  ·exact .inr ⟨g,cap,cur,e1,e2,(hb.block g (Array.getElem?_eq_some_iff.1 hgb).1).trans hgb,rest⟩
 ·obtain ⟨p,a,na,ca,d,nd,cd,g1,g2,g3,g4⟩:=h2 i hi
  exact ⟨p,a,na,ca,d,nd,cd,g1,g2,g3,g4.below hB hb⟩
theorem ML.lt {w:World} {B:Nat} {v:Value} {n:Nat} {X:Nat→Rat} {S:Nat} (h:ML w B v n X S):∀ k,v.ownBlock=some k→B≤k∧k<w.heap.size:=by
 obtain ⟨vs,h1,h2⟩:=h
 exact World.ownsRow.lt h1
theorem ML.form {w:World} {B:Nat} {v:Value} {n:Nat} {X:Nat→Rat} {S:Nat} (h:ML w B v n X S):∃ a cap,v = .slice a n cap:=by
 obtain ⟨vs,h1,h2⟩:=h
 rcases h1.2 with ⟨rfl,rfl⟩|⟨g,cap,cur,e1,_⟩
 ·exact ⟨_,_,rfl⟩
 ·exact ⟨_,_,e1⟩
theorem ML.lq {w:World} {B:Nat} {a:Option Addr} {m n cap:Nat} {X:Nat→Rat} {S:Nat} (h:ML w B (.slice a m cap) n X S):LQ w a n X (fun _=>S):=by
 obtain ⟨vs,h1,h2⟩:=h
 rcases h1.2 with ⟨e1,e2⟩|⟨g,cap,cur,e1,_,hg,_,_,_,ht⟩
 ·exact .inl e2
 ·simp only [Value.slice.injEq] at e1
  obtain ⟨rfl,_,_⟩:=e1
  refine .inr ⟨g,0,rfl,fun i hi=>?_⟩
  obtain ⟨p,a,na,ca,d,nd,cd,g1,g2,g3,g4⟩:=h2 i hi
  refine ⟨p,a,na,ca,d,nd,cd,?_,?_,?_,g4.tr⟩
  ·rw [Nat.zero_add];exact fQ hg ht g1
  ·rw [Nat.zero_add];exact fQ hg ht g2
  ·rw [Nat.zero_add];exact fQ hg ht g3
theorem ML.one {w:World} {B:Nat} {p:Bool} {a:Option Addr} {na ca:Nat} {d:Option Addr} {nd cd:Nat} {X:Nat→Rat} {S:Nat} (h:EL w B p a na ca d nd cd (X 0) S) (hB:B≤w.heap.size) (g:Nat) (hg:g=w.heap.size) :
 ML (w.alloc (.cells #[.bool p,.slice a na ca,.slice d nd cd] 27)) B (.slice (some ⟨g,0,none⟩) 1 1) 1 X S:=by
 subst hg
 refine ⟨[.bool p,.slice a na ca,.slice d nd cd],⟨rfl,.inr ⟨_,1,#[.bool p,.slice a na ca,.slice d nd cd],rfl,hB,heap_alloc_new _ _,Nat.le_refl _,by unfold maxLen;decide,rfl,rfl⟩⟩,fun i hi=>?_⟩
 obtain rfl:i=0:=by omega
 exact ⟨p,a,na,ca,d,nd,cd,rfl,rfl,rfl,h.below hB ((Below.refl _ _).alloc (Nat.le_refl _) _)⟩
theorem kG (w:World) {ops:Array Oper} {o:Oper} {a:Act} {K:Act→World→Prop} {Q:Exit→Act→World→Prop} {E:Prop} (hgd:o.guard=none) (s x:Operand)
 (ho:o.op = .call { callee:=.builtin .append,args:=#[s,x],argTypes:=#[32,32] }) (B:Nat) (v:Value) (n:Nat) (X:Nat→Rat) (S:Nat) (hs:a.eval s=v) (hown:ML w B v n X S) (h c:Nat) (hx:a.eval x = .slice (some ⟨h,0,none⟩) 1 c)
 (f:Bool) (c1:Option Addr) (n1 k1:Nat) (c2:Option Addr) (n2 k2:Nat) (r:Rat) (hc:w.cell? ⟨h,0,none⟩=some (.bool f)∧w.cell? ⟨h,1,none⟩=some (.slice c1 n1 k1)∧w.cell? ⟨h,2,none⟩=some (.slice c2 n2 k2)) (hG:EL w B f c1 n1 k1 c2 n2 k2 r S)
 (hlen:n≤1000000000000) (hB:B≤w.heap.size) (H:Nat) (hH:w.heap.size=H)
 (hK:∀ g cap w',ML w' B (.slice (some ⟨g,0,none⟩) (n+1) cap) (n+1) (fun i=>if i<n then X i else r) S→w.grownBy w' v.ownBlock→(v.ownBlock=some g∨g=H)→g<w'.heap.size→K (a.put o.dst (.slice (some ⟨g,0,none⟩) (n+1) cap)) w') :
 if Region.wanted o (yielded ops a.tmps)=true then Oper.wp Tryz.prog o a w K Q else E:=by
 obtain ⟨vs,h1,h2⟩:=hown
 obtain ⟨i0,z,hi,hz,hs3,hb56,hz3⟩:=info3
 refine step_append_lies w hgd s x 32 ho B 27 i0 z 3 56 Tryz.underlying32 hi hz hs3 hb56 hz3 (by decide) v n vs hs h1 ⟨h,0,none⟩ 1 c [.bool f,.slice c1 n1 k1,.slice c2 n2 k2] hx rfl ?_ (fun u hu=>by simp at hu;rcases hu with rfl|rfl|rfl <;> rfl) (by decide) (by unfold maxLen;omega) (by omega) hB H hH ?_
 ·intro j u hj
  match j,hj with
  | 0,hj=>simp at hj;subst hj;simpa [Addr.add] using hc.1
  | 1,hj=>simp at hj;subst hj;simpa [Addr.add] using hc.2.1
  | 2,hj=>simp at hj;subst hj;simpa [Addr.add] using hc.2.2
 ·intro g cap w' r1 r2 r3 r4
  refine hK g cap w' ⟨_,r1,fun i hi=>?_⟩ r2 r3 r4
  rcases (by omega:i<n∨i=n) with hi|rfl
  ·obtain ⟨p,a,na,ca,d,nd,cd,g1,g2,g3,g4⟩:=h2 i hi
   have e:vs.length=n*3:=h1.1
   simp only [hi,if_true]
   refine ⟨p,a,na,ca,d,nd,cd,?_,?_,?_,g4.grow hB h1 r2⟩
   ·rw [List.getElem?_append_left (by omega)];exact g1
   ·rw [List.getElem?_append_left (by omega)];exact g2
   ·rw [List.getElem?_append_left (by omega)];exact g3
  ·obtain ⟨e1,e2,e3⟩:=vs_snoc (x:=.bool f) (y:=.slice c1 n1 k1) (z:=.slice c2 n2 k2) h1.1
   simp only [Nat.lt_irrefl,if_false]
   exact ⟨f,c1,n1,k1,c2,n2,k2,e1,e2,e3,hG.grow hB h1 r2⟩
theorem bK {w w':World} {row:Option Nat} (hg:w.grownBy w' row) {p:Addr} {u:Value} (h:w.cell? p=some u) (hne:row≠some p.block):w'.cell? p=some u :=
 (World.cell?_of_block (hg.block p.block (World.block_lt_of_cell? _ _ h) (fun e=>hne e.symm))).trans h
end Go.Proofs.YtmeimjakdheidaaGreatDoor
namespace Go.Proofs.YtmeimjakdheidaaGreatDoor
end Go.Proofs.YtmeimjakdheidaaGreatDoor
namespace Go.Proofs.YtmeimjakdheidaaGreatDoor
open Go.RowKit
def cs (r s:Rat):Int:=(r.num*s.den-s.num*r.den).sign
theorem cs_tri (r s:Rat):cs r s = -1∨cs r s=0∨cs r s=1:=by
 have:=Int.sign_trichotomy (r.num*s.den-s.num*r.den)
 unfold cs;omega
theorem sign_neg_iff {a:Int}:a.sign<0↔a<0:=by
 constructor
 ·intro h
  exact Int.neg_of_sign_eq_neg_one (by have:=Int.sign_trichotomy a;omega)
 ·intro h
  rw [Int.sign_eq_neg_one_of_neg h];decide
theorem sign_pos_iff {a:Int}:0<a.sign↔0<a:=by
 constructor
 ·intro h
  exact Int.pos_of_sign_eq_one (by have:=Int.sign_trichotomy a;omega)
 ·intro h
  rw [Int.sign_eq_one_of_pos h];decide
theorem cs_lt {r s:Rat}:cs r s<0↔r<s:=by
 unfold cs;rw [sign_neg_iff,Rat.lt_iff];omega
theorem cs_gt {r s:Rat}:0<cs r s↔s<r:=by
 unfold cs;rw [sign_pos_iff,Rat.lt_iff];omega
theorem cs_le {r s:Rat}:cs r s≤0↔r≤s:=by
 rw [← Rat.not_lt,← cs_gt];omega
theorem cs_ge {r s:Rat}:0≤cs r s↔s≤r:=by
 rw [← Rat.not_lt,← cs_lt];omega
theorem jQ {r s:Rat}:cs r s=0↔r=s:=by
 constructor
 ·intro h
  exact Rat.le_antisymm (cs_le.1 (by omega)) (cs_ge.1 (by omega))
 ·rintro rfl
  have h1:¬ cs r r<0:=fun h=>Rat.lt_irrefl (cs_lt.1 h)
  have h2:¬ 0<cs r r:=fun h=>Rat.lt_irrefl (cs_gt.1 h)
  omega
theorem tri_ext {u v:Int} (hu:u = -1∨u=0∨u=1) (hv:v = -1∨v=0∨v=1) (h1:u<0↔v<0) (h2:0<u↔0<v):u=v:=by omega
theorem sg_tri (a:Int):a.sign = -1∨a.sign=0∨a.sign=1:=by
 have:=Int.sign_trichotomy a
 omega
theorem qO {r:Rat}:r.num<0↔r<0:=by
 rw [← Rat.not_le,← Rat.num_nonneg];omega
theorem yR {r:Rat}:0<r.num↔0<r:=by
 have h:=qO (r:=-r)
 rw [Rat.neg_num] at h
 have e:-r<0↔0<r:=by
  have:=Rat.neg_lt_neg_iff (a:=r) (b:=0)
  rw [Rat.neg_zero] at this
  exact this
 rw [e] at h
 rw [← h];omega
theorem cs_sub (r s:Rat):(r-s).num.sign=cs r s:=by
 refine tri_ext (sg_tri _) (cs_tri r s) ?_ ?_
 ·rw [sign_neg_iff,qO,cs_lt,Rat.lt_iff_sub_pos r s]
  have:=Rat.neg_lt_neg_iff (a:=s-r) (b:=0)
  rw [Rat.neg_zero,Rat.neg_sub] at this
  exact this
 ·rw [sign_pos_iff,yR,cs_gt,Rat.lt_iff_sub_pos s r]
theorem cmpW {p q:Bool} {a b:Option Addr} {na nb ca cb:Nat} {d e0:Option Addr} {nd ne cd ce:Nat} {r s:Rat} {S R:Nat} (w:World) (hr:TR w p a na ca d nd cd r S) (hs:TR w q b nb cb e0 ne ce s R) (hSR:S+R≤9000000) (hS1:1≤S) (hR1:1≤R) :
 Calls Tryz.prog 10 #[.agg #[.bool p,.slice a na ca,.slice d nd cd],.agg #[.bool q,.slice b nb cb,.slice e0 ne ce]] w fun e w'=>e = .returned (.int .i64 (r.num*s.den-s.num*r.den).sign)∧Below w.heap.size w w':=by
 obtain ⟨P0,P1,hb0,hsz⟩:=lD w (.bool p) (.slice a na ca) (.slice d nd cd) (.bool q) (.slice b nb cb) (.slice e0 ne ce) 27
 replace hr:=hr.below hb0
 replace hs:=hs.below hb0
 go_enter Tryz.func10,Tryz.ntmps10
 obtain ⟨p0c0,p0c1,p0c2,p0c3,p0c4,p0c5⟩:=id P0
 obtain ⟨p1c0,p1c1,p1c2,p1c3,p1c4,p1c5⟩:=id P1
 go_wp2_with fail
 generalize (w.alloc (.cells #[.bool p,.slice a na ca,.slice d nd cd] 27)).alloc (.cells #[.bool q,.slice b nb cb,.slice e0 ne ce] 27)=W0 at *
 refine (iY _ hr (by omega) hS1).mono ?_
 rintro e w1 ⟨f1,c1,n1,k1,f2,c2,n2,k2,x1,y1,rfl,T1,T2,hy1,hq1,hx⟩
 clear p0c0 p0c1 p0c2 p0c3 p0c4 p0c5 p1c0 p1c1 p1c2 p1c3 p1c4 p1c5
 replace hr:=hr.below hx
 replace hs:=hs.below hx
 replace P0:=P0.below hx
 replace P1:=P1.below hx
 replace hb0:=aF hb0 hx
 have hsw1:W0.heap.size≤w1.heap.size:=Below.size hx
 clear hx
 obtain ⟨p0c0,p0c1,p0c2,p0c3,p0c4,p0c5⟩:=id P0
 obtain ⟨p1c0,p1c1,p1c2,p1c3,p1c4,p1c5⟩:=id P1
 clear p0c0 p0c1 p0c2 p0c3 p0c4 p0c5 P0
 clear hr
 obtain ⟨V1,V2,hx,hsxw2⟩:=kY w1 (.bool f1) (.slice c1 n1 k1) (.bool f2) (.slice c2 n2 k2) 25
 clear p1c0 p1c1 p1c2 p1c3 p1c4 p1c5
 replace hs:=hs.below hx
 replace T1:=T1.below hx
 replace T2:=T2.below hx
 replace P1:=P1.below hx
 replace hb0:=aF hb0 hx
 have hsw2:w1.heap.size≤((w1.alloc (.cells #[.bool f1,.slice c1 n1 k1] 25)).alloc (.cells #[.bool f2,.slice c2 n2 k2] 25)).heap.size:=Below.size hx
 clear hx
 obtain ⟨p1c0,p1c1,p1c2,p1c3,p1c4,p1c5⟩:=id P1
 obtain ⟨v1c0,v1c1,v1c2,v1c3⟩:=id V1
 obtain ⟨v2c0,v2c1,v2c2,v2c3⟩:=id V2
 go_wp2_with fail
 generalize (w1.alloc (.cells #[.bool f1,.slice c1 n1 k1] 25)).alloc (.cells #[.bool f2,.slice c2 n2 k2] 25)=w2 at *
 refine (iY _ hs (by omega) hR1).mono ?_
 rintro e w3 ⟨f3,c3,n3,k3,f4,c4,n4,k4,x2,y2,rfl,T3,T4,hy2,hq2,hx⟩
 clear p1c0 p1c1 p1c2 p1c3 p1c4 p1c5 v1c0 v1c1 v1c2 v1c3 v2c0 v2c1 v2c2 v2c3
 replace hs:=hs.below hx
 replace T1:=T1.below hx
 replace T2:=T2.below hx
 replace P1:=P1.below hx
 replace V1:=V1.below hx
 replace V2:=V2.below hx
 replace hb0:=aF hb0 hx
 have hsw3:w2.heap.size≤w3.heap.size:=Below.size hx
 clear hx
 obtain ⟨p1c0,p1c1,p1c2,p1c3,p1c4,p1c5⟩:=id P1
 obtain ⟨v1c0,v1c1,v1c2,v1c3⟩:=id V1
 obtain ⟨v2c0,v2c1,v2c2,v2c3⟩:=id V2
 clear p1c0 p1c1 p1c2 p1c3 p1c4 p1c5 P1
 clear hs
 obtain ⟨V3,V4,hx,hsxw4⟩:=kY w3 (.bool f3) (.slice c3 n3 k3) (.bool f4) (.slice c4 n4 k4) 25
 clear v1c0 v1c1 v1c2 v1c3 v2c0 v2c1 v2c2 v2c3
 replace T1:=T1.below hx
 replace T2:=T2.below hx
 replace T3:=T3.below hx
 replace T4:=T4.below hx
 replace V1:=V1.below hx
 replace V2:=V2.below hx
 replace hb0:=aF hb0 hx
 have hsw4:w3.heap.size≤((w3.alloc (.cells #[.bool f3,.slice c3 n3 k3] 25)).alloc (.cells #[.bool f4,.slice c4 n4 k4] 25)).heap.size:=Below.size hx
 clear hx
 obtain ⟨v1c0,v1c1,v1c2,v1c3⟩:=id V1
 obtain ⟨v2c0,v2c1,v2c2,v2c3⟩:=id V2
 obtain ⟨v3c0,v3c1,v3c2,v3c3⟩:=id V3
 obtain ⟨v4c0,v4c1,v4c2,v4c3⟩:=id V4
 go_wp2_with fail
 generalize (w3.alloc (.cells #[.bool f3,.slice c3 n3 k3] 25)).alloc (.cells #[.bool f4,.slice c4 n4 k4] 25)=w4 at *
 have HV:Hid ((x1*y2-x2*y1).sign=(r.num*s.den-s.num*r.den).sign):=by show _=_;exact cmp_sign hy1 hy2 hq1 hq2
 go_region_held3 (fun w'=>w'.cell? ⟨w1.heap.size,0,none⟩=some (.bool f1)∧w'.cell? ⟨w1.heap.size,1,none⟩=some (.slice c1 n1 k1)∧w'.cell? ⟨w1.heap.size+1,0,none⟩=some (.bool f2)∧w'.cell? ⟨w1.heap.size+1,1,none⟩=some (.slice c2 n2 k2)∧w'.cell? ⟨w3.heap.size,0,none⟩=some (.bool f3)∧w'.cell? ⟨w3.heap.size,1,none⟩=some (.slice c3 n3 k3)∧w'.cell? ⟨w3.heap.size+1,0,none⟩=some (.bool f4)∧w'.cell? ⟨w3.heap.size+1,1,none⟩=some (.slice c4 n4 k4))
  (refine ⟨?_,?_,?_,?_,?_,?_,?_,?_⟩ <;> first|with_reducible exact aG hc3 (by assumption)|with_reducible exact aG hc2 (by assumption)|with_reducible exact aG hc1 (by assumption)|with_reducible exact aG (aK _) (by assumption)|with_reducible exact oH (aG hc3 (by assumption)) (by simp <;> omega))
  ((first
   | (go_at_call 33;go_fit (wG _ (T1.below (aK _)) (T4.below (aK _)) (by omega) (by omega));rintro e v5_1 ⟨g1,u1,m1,l1,rfl,K1,hb1⟩;have hd1:Below w4.heap.size w4 v5_1:=(by first|exact hb1|exact aF (aK w4) hb1);have hc1:=hd1)
   | (go_at_call 33;go_fit (wG _ (T3.below hc1) (T2.below hc1) (by omega) (by omega));rintro e v5_2 ⟨g2,u2,m2,l2,rfl,K2,hb2⟩;have hd2:Below v5_1.heap.size v5_1 v5_2:=(by first|exact hb2|exact aF (aK v5_1) hb2);have hc2:=aF hc1 hd2)
   | (go_at_call 32;go_fit (cmpT _ (K1.below hd2).ti K2.ti (by omega) (by omega));rintro e v5_3 ⟨rfl,hb3⟩;have hd3:Below v5_2.heap.size v5_2 v5_3:=(by first|exact hb3|exact aF (aK v5_2) hb3);have hc3:=aF hc2 hd3)))
 have hw:=aF hb0 hc3
 rw [HV.out]
 clear hb1 hb2 hb3 hc1 hc2 hc3 hd1 hd2 hd3 K1 K2 T1 T2 T3 T4 hb0
 clear v1c0 v1c1 v1c2 v1c3 v2c0 v2c1 v2c2 v2c3 v3c0 v3c1 v3c2 v3c3 v4c0 v4c1 v4c2 v4c3
 clear V1 V2 V3 V4
 go_wp2
 go_ret
 exact ⟨rfl,hw⟩
theorem cmpB (t:Int) {p q:Bool} {a b:Option Addr} {na nb ca cb:Nat} {d e0:Option Addr} {nd ne cd ce:Nat} {r s:Rat} {S R:Nat} (w:World) (hr:TR w p a na ca d nd cd r S) (hs:TR w q b nb cb e0 ne ce s R) (hSR:S+R≤9000000) (hS1:1≤S) (hR1:1≤R) (ht:t=cs r s) :
 Calls Tryz.prog 10 #[.agg #[.bool p,.slice a na ca,.slice d nd cd],.agg #[.bool q,.slice b nb cb,.slice e0 ne ce]] w fun e w'=>e = .returned (.int .i64 t)∧Below w.heap.size w w':=by
 rw [ht];exact cmpW w hr hs hSR hS1 hR1
theorem wQ (t:Int) {p:Bool} {a:Option Addr} {na ca:Nat} {d:Option Addr} {nd cd:Nat} {r:Rat} {S:Nat} (w:World) (hr:TR w p a na ca d nd cd r S) (hS:S≤9000000) (hS1:1≤S) (ht:t=r.num.sign) :
 Calls Tryz.prog 25 #[.agg #[.bool p,.slice a na ca,.slice d nd cd]] w fun e w'=>e = .returned (.int .i64 t)∧Below w.heap.size w w':=by
 refine (rsignR w hr hS hS1).mono ?_
 rintro e w' ⟨z,rfl,hz,hb⟩
 exact ⟨by rw [ht,hz],hb⟩
def BoxC (w:World) (R:Nat) (cs:List Value):Prop:=∀ i u,cs[i]? = some u→w.cell? ⟨R,i,none⟩=some u
theorem aQ (w:World) (cs:Array Value) (t:TypeId):BoxC (w.alloc (.cells cs t)) w.heap.size cs.toList:=by
 intro i u hu
 have h:(w.alloc (.cells cs t)).heap[w.heap.size]? = some (.cells cs t):=heap_alloc_new _ _
 unfold World.cell?
 rw [h]
 simpa using hu
theorem BoxC.below {w w':World} {R:Nat} {cs:List Value} (h:BoxC w R cs) (hb:Below w.heap.size w w'):BoxC w' R cs:=fun i u hu=>aG hb (h i u hu)
def fV (a:Rat) (hlo:Bool) (lo:Rat) (hhi:Bool) (hi:Rat):Bool:=!(hlo && decide (cs a lo<0)) && !(hhi && decide (0<cs a hi))
theorem boxc3 (w:World) (c0:Array Value) (t0:TypeId) (c1:Array Value) (t1:TypeId) (c2:Array Value) (t2:TypeId):let W:=((w.alloc (.cells c0 t0)).alloc (.cells c1 t1)).alloc (.cells c2 t2);BoxC W w.heap.size c0.toList∧BoxC W (w.heap.size+1) c1.toList∧BoxC W (w.heap.size+2) c2.toList∧Below w.heap.size w W∧W.heap.size=w.heap.size+3:=by
 have e1:(w.alloc (.cells c0 t0)).heap.size=w.heap.size+1:=by simp
 have e2:((w.alloc (.cells c0 t0)).alloc (.cells c1 t1)).heap.size=w.heap.size+2:=by simp
 have P1:=aQ (w.alloc (.cells c0 t0)) c1 t1
 have P2:=aQ ((w.alloc (.cells c0 t0)).alloc (.cells c1 t1)) c2 t2
 rw [e1] at P1
 rw [e2] at P2
 exact ⟨((aQ w c0 t0).below (aI _ _)).below (aI _ _),P1.below (aI _ _),P2,fB (fB (aI _ _)),by simp⟩
theorem withinQ {p:Bool} {a:Option Addr} {na ca:Nat} {d:Option Addr} {nd cd:Nat} {r:Rat} {S:Nat} {hlo pl:Bool} {al:Option Addr} {nl cl:Nat} {dl:Option Addr} {ml ll:Nat} {lo:Rat} {hhi ph:Bool} {ah:Option Addr} {nh ch:Nat} {dh:Option Addr} {mh lh:Nat} {hi:Rat} {R:Nat} (w:World)
 (hr:TR w p a na ca d nd cd r S) (hl:TR w pl al nl cl dl ml ll lo R) (hh:TR w ph ah nh ch dh mh lh hi R) (hSR:S+R≤9000000) (hS1:1≤S) (hR1:1≤R) :
 Calls Tryz.prog 39 #[.agg #[.bool p,.slice a na ca,.slice d nd cd],.agg #[.bool hlo,.bool pl,.slice al nl cl,.slice dl ml ll],.agg #[.bool hhi,.bool ph,.slice ah nh ch,.slice dh mh lh]] w fun e w'=>e = .returned (.bool (fV r hlo lo hhi hi))∧Below w.heap.size w w':=by
 obtain ⟨P0,P1,P2,hb,hs⟩:=boxc3 w #[.bool p,.slice a na ca,.slice d nd cd] 27 #[.bool hlo,.bool pl,.slice al nl cl,.slice dl ml ll] 48 #[.bool hhi,.bool ph,.slice ah nh ch,.slice dh mh lh] 48
 have a0:=P0 0 _ rfl
 have a1:=P0 1 _ rfl
 have a2:=P0 2 _ rfl
 have b0:=P1 0 _ rfl
 have b1:=P1 1 _ rfl
 have b2:=P1 2 _ rfl
 have b3:=P1 3 _ rfl
 have c0:=P2 0 _ rfl
 have c1:=P2 1 _ rfl
 have c2:=P2 2 _ rfl
 have c3:=P2 3 _ rfl
 clear P0 P1 P2
 replace hr:=hr.below hb
 replace hl:=hl.below hb
 replace hh:=hh.below hb
 go_enter Tryz.func39,Tryz.ntmps39
 cases hlo
 ·cases hhi
  ·go_wp2
   go_ret
   exact ⟨by simp [fV],hb⟩
  ·go_wp2_with fail
   generalize ((w.alloc (.cells #[.bool p,.slice a na ca,.slice d nd cd] 27)).alloc (.cells #[.bool false,.bool pl,.slice al nl cl,.slice dl ml ll] 48)).alloc (.cells #[.bool true,.bool ph,.slice ah nh ch,.slice dh mh lh] 48)=W at *
   refine (cmpB _ W hr hh (by omega) (by omega) (by omega) rfl).mono ?_
   rintro e w1 ⟨rfl,h1⟩
   have hb1:=aF hb h1
   go_wp2
   go_ret
   exact ⟨by simp [fV],hb1⟩
 ·cases hhi
  ·go_wp2_with fail
   generalize ((w.alloc (.cells #[.bool p,.slice a na ca,.slice d nd cd] 27)).alloc (.cells #[.bool true,.bool pl,.slice al nl cl,.slice dl ml ll] 48)).alloc (.cells #[.bool false,.bool ph,.slice ah nh ch,.slice dh mh lh] 48)=W at *
   refine (cmpB _ W hr hl (by omega) (by omega) (by omega) rfl).mono ?_
   rintro e w1 ⟨rfl,h1⟩
   have hb1:=aF hb h1
   replace c0:=aG h1 c0
   by_cases hc:cs r lo<0
   ·go_wp2
    go_ret
    exact ⟨by simp [fV,hc],hb1⟩
   ·go_wp2
    go_ret
    exact ⟨by simp [fV],hb1⟩
  ·go_wp2_with fail
   generalize ((w.alloc (.cells #[.bool p,.slice a na ca,.slice d nd cd] 27)).alloc (.cells #[.bool true,.bool pl,.slice al nl cl,.slice dl ml ll] 48)).alloc (.cells #[.bool true,.bool ph,.slice ah nh ch,.slice dh mh lh] 48)=W at *
   refine (cmpB _ W hr hl (by omega) (by omega) (by omega) rfl).mono ?_
   rintro e w1 ⟨rfl,h1⟩
   have hb1:=aF hb h1
   replace a0:=aG h1 a0
   replace a1:=aG h1 a1
   replace a2:=aG h1 a2
   replace c0:=aG h1 c0
   replace c1:=aG h1 c1
   replace c2:=aG h1 c2
   replace c3:=aG h1 c3
   replace hr:=hr.below h1
   replace hh:=hh.below h1
   go_wp2_with fail
   refine (cmpB _ w1 hr hh (by omega) (by omega) (by omega) rfl).mono ?_
   rintro e w2 ⟨rfl,h2⟩
   replace hb1:=aF hb1 h2
   by_cases hc:cs r lo<0
   ·go_wp2
    go_ret
    exact ⟨by simp [fV,hc],hb1⟩
   ·go_wp2
    go_ret
    exact ⟨by simp [fV],hb1⟩
def Inf (T:TypeId) (c y:Nat):Prop:=∃ i z,Tryz.prog.info? T=some i∧i.zero=some z∧i.size=c∧i.bytes=y∧z.cells.size=c
theorem kH {T:TypeId} {c y:Nat} (h:(Tryz.prog.info? T).map (fun i=>(i.zero.map (fun z=>z.cells.size),i.size,i.bytes))=some (some c,c,y)):Inf T c y:=by
 obtain ⟨i,hi,h⟩:=Option.map_eq_some_iff.1 h
 simp only [Prod.mk.injEq] at h
 obtain ⟨h1,h2,h3⟩:=h
 obtain ⟨z,hz,h4⟩:=Option.map_eq_some_iff.1 h1
 exact ⟨i,z,hi,hz,h2,h3,h4⟩
def SL (w:World) (B:Nat) (T:TypeId) (c:Nat) (v:Value) (n:Nat) (E:Nat→List Value):Prop :=
 ∃ vs:List Value,w.ownsRow B T c v n vs∧∀ i,i<n→∀ j u,(E i)[j]? = some u→j<c∧vs[i*c+j]? = some u
theorem SL.nil (w:World) (B:Nat) (T:TypeId) (c:Nat) (E:Nat→List Value):SL w B T c (.slice none 0 0) 0 E:=⟨[],World.ownsRow_nil _ _ _ _,fun i hi=>by omega⟩
theorem SL.below {w w':World} {B:Nat} {T:TypeId} {c:Nat} {v:Value} {n:Nat} {E:Nat→List Value} (h:SL w B T c v n E) (hb:Below w.heap.size w w'):SL w' B T c v n E:=by
 obtain ⟨vs,h1,h2⟩:=h
 refine ⟨vs,⟨h1.1,?_⟩,h2⟩
 rcases h1.2 with hn|⟨g,cap,cur,e1,e2,hgb,rest⟩
 ·exact .inl hn
 ·exact .inr ⟨g,cap,cur,e1,e2,(hb.block g (Array.getElem?_eq_some_iff.1 hgb).1).trans hgb,rest⟩
theorem SL.form {w:World} {B:Nat} {T:TypeId} {c:Nat} {v:Value} {n:Nat} {E:Nat→List Value} (h:SL w B T c v n E):∃ a cap,v = .slice a n cap∧n≤cap:=by
 obtain ⟨vs,h1,h2⟩:=h
 rcases h1.2 with ⟨rfl,rfl⟩|⟨g,cap,cur,e1,_,_,h3,_⟩
 ·exact ⟨_,_,rfl,Nat.le_refl _⟩
 ·exact ⟨_,_,e1,h3⟩
theorem SL.lt {w:World} {B:Nat} {T:TypeId} {c:Nat} {v:Value} {n:Nat} {E:Nat→List Value} (h:SL w B T c v n E):∀ k,v.ownBlock=some k→B≤k∧k<w.heap.size:=by
 obtain ⟨vs,h1,h2⟩:=h
 exact World.ownsRow.lt h1
theorem SL.mono {w:World} {B B':Nat} {T:TypeId} {c:Nat} {v:Value} {n:Nat} {E:Nat→List Value} (h:SL w B T c v n E) (hB:B'≤B):SL w B' T c v n E:=by
 obtain ⟨vs,h1,h2⟩:=h
 refine ⟨vs,⟨h1.1,?_⟩,h2⟩
 rcases h1.2 with hn|⟨g,cap,cur,e1,e2,rest⟩
 ·exact .inl hn
 ·exact .inr ⟨g,cap,cur,e1,by omega,rest⟩
theorem SL.cell {w:World} {B:Nat} {T:TypeId} {c:Nat} {a:Option Addr} {m n cap:Nat} {E:Nat→List Value} (h:SL w B T c (.slice a m cap) n E):n=0∨∃ g,a=some ⟨g,0,none⟩∧∀ i,i<n→∀ j u,(E i)[j]? = some u→w.cell? ⟨g,i*c+j,none⟩=some u:=by
 obtain ⟨vs,h1,h2⟩:=h
 rcases h1.2 with ⟨e1,e2⟩|⟨g,cap,cur,e1,_,hg,_,_,_,ht⟩
 ·exact .inl e2
 ·simp only [Value.slice.injEq] at e1
  obtain ⟨rfl,_,_⟩:=e1
  exact .inr ⟨g,rfl,fun i hi j u hu=>fQ hg ht (h2 i hi j u hu).2⟩
theorem SL.kept {w w':World} {B:Nat} {T:TypeId} {c:Nat} {v:Value} {n:Nat} {E:Nat→List Value} (h:SL w B T c v n E) {row:Option Nat} (hg:w.grownBy w' row) (hne:∀ g,v.ownBlock=some g→row≠some g):SL w' B T c v n E:=by
 obtain ⟨vs,h1,h2⟩:=h
 refine ⟨vs,World.ownsRow.kept h1 hg ?_,h2⟩
 cases e:v.ownBlock with
 | none=>exact .inl rfl
 | some g=>exact .inr fun e2=>hne g e e2.symm
theorem rD {w:World} {B B':Nat} {T U:TypeId} {c d:Nat} {v u:Value} {n m:Nat} {xs ys:List Value} (h:w.ownsRow B T c v n xs) (k:w.ownsRow B' U d u m ys) (hT:T≠U):∀ g,v.ownBlock=some g→u.ownBlock≠some g:=by
 intro g h1 h2
 rcases h.2 with ⟨e1,_⟩|⟨g1,c1,cur1,e1,_,f1,_⟩
 ·subst e1;simp [Value.ownBlock] at h1
 ·rcases k.2 with ⟨e2,_⟩|⟨g2,c2,cur2,e2,_,f2,_⟩
  ·subst e2;simp [Value.ownBlock] at h2
  ·subst e1 e2
   simp [Value.ownBlock] at h1 h2
   subst h1 h2
   rw [f1] at f2
   simp only [Option.some.injEq,Obj.cells.injEq] at f2
   exact hT f2.2.1
theorem Got.growS {w w':World} {B:Nat} {v:Value} {x:Int} {S:Nat} (h:Got w B v x S) {B':Nat} {T:TypeId} {c:Nat} {lv:Value} {n:Nat} {E:Nat→List Value} (k:SL w B' T c lv n E) (hT:118≠T) (hg:w.grownBy w' lv.ownBlock):Got w' B v x S:=by
 obtain ⟨xs,h1,h2⟩:=h
 obtain ⟨vs,k1,_⟩:=k
 exact ⟨xs,World.ownsRow.kept h1 hg (row_or (rD h1 k1 hT)),h2⟩
theorem GR.growS {w w':World} {B:Nat} {f:Bool} {c:Option Addr} {n k:Nat} {c':Option Addr} {n' k':Nat} {r:Rat} {S:Nat} (h:GR w B f c n k c' n' k' r S) {B':Nat} {T:TypeId} {d:Nat} {lv:Value} {m:Nat} {E:Nat→List Value} (q:SL w B' T d lv m E) (hT:118≠T) (hg:w.grownBy w' lv.ownBlock):GR w' B f c n k c' n' k' r S:=by
 refine ⟨?_,h.2.growS q hT hg,h.3⟩
 obtain ⟨a,n2,c2,h1,h2⟩:=h.1
 exact ⟨a,n2,c2,h1,h2.growS q hT hg⟩
theorem sl_app {c n:Nat} {vs cs:List Value} {E:Nat→List Value} (hl:vs.length=n*c) (hcs:cs.length=c) (h2:∀ i,i<n→∀ j u,(E i)[j]? = some u→j<c∧vs[i*c+j]? = some u) :
 ∀ i,i<n+1→∀ j u,((fun i=>if i<n then E i else cs) i)[j]? = some u→j<c∧(vs++cs)[i*c+j]? = some u:=by
 intro i hi j u hu
 rcases (by omega:i<n∨i=n) with h|rfl
 ·simp only [h,if_true] at hu
  obtain ⟨h3,h4⟩:=h2 i h j u hu
  refine ⟨h3,?_⟩
  have h5:(i+1)*c≤n*c:=Nat.mul_le_mul_right c h
  rw [Nat.add_mul,Nat.one_mul] at h5
  rw [List.getElem?_append_left (by omega)]
  exact h4
 ·simp only [Nat.lt_irrefl,if_false] at hu
  have h3:j<cs.length:=(List.getElem?_eq_some_iff.1 hu).1
  refine ⟨by omega,?_⟩
  rw [List.getElem?_append_right (by omega),hl,Nat.add_sub_cancel_left]
  exact hu
theorem lJ (w:World) {ops:Array Oper} {rest:List Oper} {o:Oper} {a:Act} {Q:Exit→Act→World→Prop} (hgd:o.guard=none) (s x:Operand) (L T:TypeId) (c y:Nat)
 (ho:o.op = .call { callee:=.builtin .append,args:=#[s,x],argTypes:=#[L,L] }) (hL:Tryz.prog.underlying L=some (.slice T)) (hI:Inf T c y) (hc0:0<c) (hy:y≤1000)
 (B:Nat) (v:Value) (n:Nat) (E:Nat→List Value) (hs:a.eval s=v) (hown:SL w B T c v n E) (h k:Nat) (hx:a.eval x = .slice (some ⟨h,0,none⟩) 1 k)
 (cs:List Value) (hcs:cs.length=c) (h1:∀ u ∈ cs,u.oneCell'=true) (hbox:BoxC w h cs)
 (hlen:n≤1000000000) (hB:B≤w.heap.size) (H:Nat) (hH:w.heap.size=H)
 (hK:∀ g cap w',SL w' B T c (.slice (some ⟨g,0,none⟩) (n+1) cap) (n+1) (fun i=>if i<n then E i else cs)→w.grownBy w' v.ownBlock→(v.ownBlock=some g∨g=H)→g<w'.heap.size→wpList Tryz.prog ops Q rest (a.put o.dst (.slice (some ⟨g,0,none⟩) (n+1) cap)) w') :
 wpList Tryz.prog ops Q (o::rest) a w:=by
 obtain ⟨vs,g1,g2⟩:=hown
 obtain ⟨i0,z,hi,hz,hs3,hb56,hz3⟩:=hI
 have hyn:(n+1)*y≤1000000001*1000:=Nat.mul_le_mul (by omega) hy
 refine wpList_append_lies w hgd s x L ho B T i0 z c y hL hi hz hs3 hb56 hz3 hc0 v n vs hs g1 ⟨h,0,none⟩ 1 k cs hx (by omega) ?_ h1 (by decide) (by unfold maxLen;omega) (by omega) hB H hH ?_
 ·intro j u hj
  have:=hbox j u hj
  by_cases e:j=0
  ·subst e;simpa [Addr.add] using this
  ·simpa [Addr.add,e] using this
 ·intro g cap w' r1 r2 r3 r4
  exact hK g cap w' ⟨_,r1,sl_app g1.1 hcs g2⟩ r2 r3 r4
theorem kJ:Inf 52 4 64:=kH (by kernel_rfl)
theorem infVar:Inf 50 13 208:=kH (by kernel_rfl)
theorem infRow:Inf 55 10 168:=kH (by kernel_rfl)
end Go.Proofs.YtmeimjakdheidaaGreatDoor
