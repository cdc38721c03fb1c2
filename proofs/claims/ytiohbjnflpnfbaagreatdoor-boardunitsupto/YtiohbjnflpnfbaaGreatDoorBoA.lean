import Derived.Test.YtiohbjnflpnfbaaGreatDoorPrEAll
import Derived.Test.YtiohbjnflpnfbaaGreatDoorBoEAll
namespace Go.Proofs.YtiohbjnflpnfbaaGreatDoor
open Go.RowKit
def EnC (w:World) (cs:List Value) (e:Nat × Rat) (S:Nat):Prop:=∃ p a na ca d nd cd,cs = [.int .i64 (e.1:Nat),.bool p,.slice a na ca,.slice d nd cd]∧GR w 0 p a na ca d nd cd e.2 S
def LnE (w:World) (B:Nat) (v:Value) (l:List (Nat × Rat)) (S:Nat):Prop:=∃ E,SL w B 97 4 v l.length E∧∀ (i:Nat) (e:Nat × Rat),l[i]? = some e→EnC w (E i) e S
theorem EnC.below {w w':World} {cs:List Value} {e:Nat × Rat} {S:Nat} (h:EnC w cs e S) (hb:Below w.heap.size w w'):EnC w' cs e S:=by
 obtain ⟨p,a,na,ca,d,nd,cd,e1,g⟩:=h
 exact ⟨p,a,na,ca,d,nd,cd,e1,g.below hb⟩
theorem EnC.keep {w w':World} {cs:List Value} {e:Nat × Rat} {S:Nat} (h:EnC w cs e S) {row:Option Nat} (hn:NoW w row) (hg:w.grownBy w' row):EnC w' cs e S:=by
 obtain ⟨p,a,na,ca,d,nd,cd,e1,g⟩:=h
 exact ⟨p,a,na,ca,d,nd,cd,e1,g.keep hn hg⟩
theorem EnC.le {w:World} {cs:List Value} {e:Nat × Rat} {S S':Nat} (h:EnC w cs e S) (hS:S≤S'):EnC w cs e S':=by
 obtain ⟨p,a,na,ca,d,nd,cd,e1,g⟩:=h
 exact ⟨p,a,na,ca,d,nd,cd,e1,g.le hS⟩
theorem LnE.nil (w:World) (B S:Nat):LnE w B (.slice none 0 0) [] S:=⟨fun _=>[],SL.nil _ _ _ _ _,fun i e h=>by simp at h⟩
theorem LnE.below {w w':World} {B:Nat} {v:Value} {l:List (Nat × Rat)} {S:Nat} (h:LnE w B v l S) (hb:Below w.heap.size w w'):LnE w' B v l S:=by
 obtain ⟨E,h1,h2⟩:=h
 exact ⟨E,h1.below hb,fun i e he=>(h2 i e he).below hb⟩
theorem LnE.mono {w:World} {B B':Nat} {v:Value} {l:List (Nat × Rat)} {S:Nat} (h:LnE w B v l S) (hB:B'≤B):LnE w B' v l S:=by
 obtain ⟨E,h1,h2⟩:=h
 exact ⟨E,h1.mono hB,h2⟩
theorem LnE.le {w:World} {B:Nat} {v:Value} {l:List (Nat × Rat)} {S S':Nat} (h:LnE w B v l S) (hS:S≤S'):LnE w B v l S':=by
 obtain ⟨E,h1,h2⟩:=h
 exact ⟨E,h1,fun i e he=>(h2 i e he).le hS⟩
theorem LnE.form {w:World} {B:Nat} {v:Value} {l:List (Nat × Rat)} {S:Nat} (h:LnE w B v l S):∃ a cap,v = .slice a l.length cap∧l.length≤cap:=by
 obtain ⟨E,h1,h2⟩:=h
 exact h1.form
theorem LnE.lt {w:World} {B:Nat} {v:Value} {l:List (Nat × Rat)} {S:Nat} (h:LnE w B v l S):∀ k,v.ownBlock = some k→B≤k∧k < w.heap.size:=by
 obtain ⟨E,h1,h2⟩:=h
 exact h1.lt
theorem LnE.typ {w:World} {B:Nat} {v:Value} {l:List (Nat × Rat)} {S:Nat} (h:LnE w B v l S) {g:Nat} (hg:v.ownBlock = some g):∃ cur,w.heap[g]? = some (.cells cur 97 (0,0)):=by
 obtain ⟨E,h1,h2⟩:=h
 exact h1.typ hg
theorem LnE.get {w:World} {B:Nat} {a:Option Addr} {n cap:Nat} {l:List (Nat × Rat)} {S:Nat} (h:LnE w B (.slice a n cap) l S) {i:Nat} {e:Nat × Rat} (he:l[i]? = some e):∃ g p b nb cb d nd cd,a = some ⟨g,0,none⟩∧w.cell? ⟨g,i * 4,none⟩ = some (.int .i64 (e.1:Nat))∧w.cell? ⟨g,i * 4 + 1,none⟩ = some (.bool p)∧w.cell? ⟨g,i * 4 + 2,none⟩ = some (.slice b nb cb)∧w.cell? ⟨g,i * 4 + 3,none⟩ = some (.slice d nd cd)∧GR w 0 p b nb cb d nd cd e.2 S:=by
 obtain ⟨E,h1,h2⟩:=h
 have hi:i < l.length:=(List.getElem?_eq_some_iff.1 he).1
 rcases h1.cell with h0 | ⟨g,ea,hc⟩
 ·omega
 ·obtain ⟨p,b,nb,cb,d,nd,cd,e1,g1⟩:=h2 i e he
  have hk:=hc i hi
  rw [e1] at hk
  exact ⟨g,p,b,nb,cb,d,nd,cd,ea,by simpa using hk 0 _ rfl,hk 1 _ rfl,hk 2 _ rfl,hk 3 _ rfl,g1⟩
theorem LnE.snoc {w:World} {B:Nat} {v:Value} {l:List (Nat × Rat)} {S m:Nat} {E:Nat→List Value} {cs:List Value} {e:Nat × Rat} (hm:m = l.length) (h:SL w B 97 4 v (m + 1) (fun i=>if i < m then E i else cs)) (hE:∀ (i:Nat) (e:Nat × Rat),l[i]? = some e→EnC w (E i) e S) (hc:EnC w cs e S):LnE w B v (l ++ [e]) S:=by
 subst hm
 refine ⟨_,by rw [List.length_append];exact h,fun i t ht=>?_⟩
 by_cases hi:i < l.length
 ·rw [List.getElem?_append_left hi] at ht
  simp only [hi,if_true]
  exact hE i t ht
 ·rw [List.getElem?_append_right (by omega)] at ht
  have:=(List.getElem?_eq_some_iff.1 ht).1
  have e0:i - l.length = 0:=by simp at this;omega
  rw [e0] at ht
  simp at ht
  subst ht
  simp only [hi,if_false]
  exact hc
def latI (l:List (Nat × Rat)) (k:Int):Rat:=if 0≤k then lat l k.toNat else 0
theorem latI_nat (l:List (Nat × Rat)) (k:Nat):latI l (k:Int) = lat l k:=by
 unfold latI
 rw [if_pos (by omega),Int.toNat_natCast]
theorem latI_at {l:List (Nat × Rat)} (h:Rise l) {i:Nat} {e:Nat × Rat} (he:l[i]? = some e) {k:Int} (hk:(e.1:Int) = k):latI l k = e.2:=by
 subst hk
 rw [latI_nat]
 exact lat_at h he
theorem latI_none {l:List (Nat × Rat)} {k:Int} (h:∀ (i:Nat) (e:Nat × Rat),l[i]? = some e→(e.1:Int) ≠ k):latI l k = 0:=by
 unfold latI
 split
 ·exact lat_none fun i e he=>by have:=h i e he;omega
 ·rfl
theorem TR.zero (w:World) (S:Nat):TR w false none 0 0 none 0 0 0 S:=⟨0,0,((GI.nil w 0).le (Nat.zero_le S)).ti,((Got.nil w 0).le (Nat.zero_le S)).num,by simp⟩
def NZ (w:World) (p:Bool) (a:Option Addr) (na ca:Nat) (d:Option Addr) (nd cd:Nat) (r:Rat) (S:Nat):Prop:=(p = false∧a = none∧na = 0∧ca = 0∧d = none∧nd = 0∧cd = 0∧r = 0)∨GR w 0 p a na ca d nd cd r S
section
variable {w w':World} {p:Bool} {a:Option Addr} {na ca:Nat} {d:Option Addr} {nd cd:Nat} {r:Rat} {S:Nat}
theorem NZ.zero (w:World) (S:Nat):NZ w false none 0 0 none 0 0 0 S:=.inl ⟨rfl,rfl,rfl,rfl,rfl,rfl,rfl,rfl⟩
theorem NZ.tr (h:NZ w p a na ca d nd cd r S):TR w p a na ca d nd cd r S:=by
 rcases h with ⟨rfl,rfl,rfl,rfl,rfl,rfl,rfl,rfl⟩ | h
 ·exact TR.zero _ _
 ·exact h.tr
theorem NZ.below (h:NZ w p a na ca d nd cd r S) (hb:Below w.heap.size w w'):NZ w' p a na ca d nd cd r S:=h.imp id fun h=>h.below hb
theorem NZ.kf {C C':Nat→Prop} (h:NZ w p a na ca d nd cd r S) (hk:KF C C' w w') (hn:NoU w C):NZ w' p a na ca d nd cd r S:=h.imp id fun h=>h.kf hk hn
end
theorem LnE.put {w:World} {B g n cap:Nat} {l:List (Nat × Rat)} {S i:Nat} {e:Nat × Rat} (h:LnE w B (.slice (some ⟨g,0,none⟩) n cap) l S) (he:l[i]? = some e) {p:Bool} {a:Option Addr} {na ca:Nat} {d:Option Addr} {nd cd:Nat} {r:Rat} (G:GR w 0 p a na ca d nd cd r S) :
  LnE (((w.setCell ⟨g,i * 4 + 1,none⟩ (.bool p)).setCell ⟨g,i * 4 + 2,none⟩ (.slice a na ca)).setCell ⟨g,i * 4 + 3,none⟩ (.slice d nd cd)) B (.slice (some ⟨g,0,none⟩) n cap) (l.set i (e.1,r)) S∧Off g w (((w.setCell ⟨g,i * 4 + 1,none⟩ (.bool p)).setCell ⟨g,i * 4 + 2,none⟩ (.slice a na ca)).setCell ⟨g,i * 4 + 3,none⟩ (.slice d nd cd)):=by
 have hO:Off g w (((w.setCell ⟨g,i * 4 + 1,none⟩ (.bool p)).setCell ⟨g,i * 4 + 2,none⟩ (.slice a na ca)).setCell ⟨g,i * 4 + 3,none⟩ (.slice d nd cd)):=(((Off.refl _ _).set _ _).set _ _).set _ _
 refine ⟨?_,hO⟩
 obtain ⟨E,h1,h2⟩:=h
 obtain ⟨a',c',e1,_⟩:=h1.form
 simp only [Value.slice.injEq] at e1
 obtain ⟨_,rfl,_⟩:=e1
 have hi:i < l.length:=(List.getElem?_eq_some_iff.1 he).1
 obtain ⟨p0,a0,n0,c0,d0,m0,e0,ecs,_⟩:=h2 i e he
 have hn:NoW w (some g):=h1.noW (show 97 ≠ 100 by decide)
 let E1:Nat→List Value:=fun q=>if q = i then [.int .i64 (e.1:Nat),.bool p,.slice a0 n0 c0,.slice d0 m0 e0] else E q
 let E2:Nat→List Value:=fun q=>if q = i then [.int .i64 (e.1:Nat),.bool p,.slice a na ca,.slice d0 m0 e0] else E q
 let E3:Nat→List Value:=fun q=>if q = i then [.int .i64 (e.1:Nat),.bool p,.slice a na ca,.slice d nd cd] else E q
 have s1:=h1.put (E':=E1) (i:=i) (o:=1) (v:=.bool p) hi (by decide) (fun q _ hq=>if_neg hq) (fun j u hu=>by
  have hu':[Value.int .i64 (e.1:Nat),.bool p,.slice a0 n0 c0,.slice d0 m0 e0][j]? = some u:=by simpa [E1] using hu
  rw [ecs]
  rcases j with _ | _ | _ | _ | j <;> simp at hu' ⊢ <;> first | exact hu' | exact hu'.symm)
 have s2:=s1.put (E':=E2) (i:=i) (o:=2) (v:=.slice a na ca) hi (by decide) (fun q _ hq=>by simp [E1,E2,hq]) (fun j u hu=>by
  have hu':[Value.int .i64 (e.1:Nat),.bool p,.slice a na ca,.slice d0 m0 e0][j]? = some u:=by simpa [E2] using hu
  simp only [E1,if_true]
  rcases j with _ | _ | _ | _ | j <;> simp at hu' ⊢ <;> first | exact hu' | exact hu'.symm)
 have s3:=s2.put (E':=E3) (i:=i) (o:=3) (v:=.slice d nd cd) hi (by decide) (fun q _ hq=>by simp [E2,E3,hq]) (fun j u hu=>by
  have hu':[Value.int .i64 (e.1:Nat),.bool p,.slice a na ca,.slice d nd cd][j]? = some u:=by simpa [E3] using hu
  simp only [E2,if_true]
  rcases j with _ | _ | _ | _ | j <;> simp at hu' ⊢ <;> first | exact hu' | exact hu'.symm)
 refine ⟨E3,by rw [List.length_set];exact s3,fun q x hx=>?_⟩
 by_cases hq:q = i
 ·subst hq
  rw [List.getElem?_set_self hi] at hx
  cases hx
  exact ⟨p,a,na,ca,d,nd,cd,by simp [E3],G.keep hn hO.grown⟩
 ·rw [List.getElem?_set_ne (Ne.symm hq)] at hx
  simp only [E3,hq,if_false]
  exact (h2 q x hx).keep hn hO.grown
def LnS (w:World) (a:Option Addr) (l:List (Nat × Rat)) (S:Nat):Prop:=l = []∨∃ g o,a = some ⟨g,o,none⟩∧∀ (i:Nat) (e:Nat × Rat),l[i]? = some e→∃ p b nb cb d nd cd,w.cell? ⟨g,o + i * 4,none⟩ = some (.int .i64 (e.1:Nat))∧w.cell? ⟨g,o + i * 4 + 1,none⟩ = some (.bool p)∧w.cell? ⟨g,o + i * 4 + 2,none⟩ = some (.slice b nb cb)∧w.cell? ⟨g,o + i * 4 + 3,none⟩ = some (.slice d nd cd)∧GR w 0 p b nb cb d nd cd e.2 S
theorem LnE.rest {w:World} {B:Nat} {a:Option Addr} {n cap:Nat} {l:List (Nat × Rat)} {S:Nat} (h:LnE w B (.slice a n cap) l S):LnS w a l S:=by
 rcases l with _ | ⟨x,l⟩
 ·exact .inl rfl
 ·obtain ⟨g,_,_,_,_,_,_,_,ea,_⟩:=h.get (i:=0) (e:=x) rfl
  refine .inr ⟨g,0,ea,fun i e he=>?_⟩
  obtain ⟨g',p,b,nb,cb,d,nd,cd,ea',y0,y1,y2,y3,G⟩:=h.get he
  rw [ea] at ea'
  simp only [Option.some.injEq,Addr.mk.injEq,and_true] at ea'
  subst ea'
  exact ⟨p,b,nb,cb,d,nd,cd,by rw [Nat.zero_add];exact y0,by rw [Nat.zero_add];exact y1,by rw [Nat.zero_add];exact y2,by rw [Nat.zero_add];exact y3,G⟩
theorem LnS.below {w w':World} {a:Option Addr} {l:List (Nat × Rat)} {S:Nat} (h:LnS w a l S) (hb:Below w.heap.size w w'):LnS w' a l S:=by
 rcases h with h | ⟨g,o,ea,h⟩
 ·exact .inl h
 ·refine .inr ⟨g,o,ea,fun i e he=>?_⟩
  obtain ⟨p,b,nb,cb,d,nd,cd,y0,y1,y2,y3,G⟩:=h i e he
  exact ⟨p,b,nb,cb,d,nd,cd,kept_c hb y0,kept_c hb y1,kept_c hb y2,kept_c hb y3,G.below hb⟩
theorem LnS.uncons {w:World} {a:Option Addr} {e:Nat × Rat} {l:List (Nat × Rat)} {S:Nat} (h:LnS w a (e :: l) S):∃ g o p b nb cb d nd cd,a = some ⟨g,o,none⟩∧w.cell? ⟨g,o,none⟩ = some (.int .i64 (e.1:Nat))∧w.cell? ⟨g,o + 1,none⟩ = some (.bool p)∧w.cell? ⟨g,o + 2,none⟩ = some (.slice b nb cb)∧w.cell? ⟨g,o + 3,none⟩ = some (.slice d nd cd)∧GR w 0 p b nb cb d nd cd e.2 S∧LnS w (some ⟨g,o + 4,none⟩) l S:=by
 rcases h with h | ⟨g,o,ea,h⟩
 ·cases h
 ·obtain ⟨p,b,nb,cb,d,nd,cd,y0,y1,y2,y3,G⟩:=h 0 e rfl
  simp only [Nat.zero_mul,Nat.add_zero] at y0 y1 y2 y3
  refine ⟨g,o,p,b,nb,cb,d,nd,cd,ea,y0,y1,y2,y3,G,.inr ⟨g,o + 4,rfl,fun i x hx=>?_⟩⟩
  obtain ⟨p,b,nb,cb,d,nd,cd,y0,y1,y2,y3,G⟩:=h (i + 1) x (by simpa using hx)
  have e4:o + (i + 1) * 4 = o + 4 + i * 4:=by omega
  rw [e4] at y0 y1 y2 y3
  exact ⟨p,b,nb,cb,d,nd,cd,y0,y1,y2,y3,G⟩
end Go.Proofs.YtiohbjnflpnfbaaGreatDoor
