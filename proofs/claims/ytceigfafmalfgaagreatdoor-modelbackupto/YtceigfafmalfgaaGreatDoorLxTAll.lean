import Derived.Shelf.Strconv.Clone
import Derived.Test.YtceigfafmalfgaaGreatDoorRatAll
import Derived.Test.YtceigfafmalfgaaGreatDoorPrD
import Derived.Test.YtceigfafmalfgaaGreatDoorRwAAll
import Derived.Test.YtceigfafmalfgaaGreatDoorWhEAll
namespace Go.Proofs.YtceigfafmalfgaaGreatDoor
open Go.RowKit Go.Shelf
def cloneRen:Ren:=⟨fun|316=>39|n=>n,fun|5=>5|9=>9|3=>3|4=>4|37=>118|127=>119|n=>n,fun n=>n⟩
theorem lays316:LaysM.n316 Tryz.prog cloneRen:={
 mixed:=by kernel_rfl
 f316:=Tryz.func39.trans (congrArg some (by kernel_rfl))
 t0:=Tryz.underlying0
 a0:=Tryz.isAgg0
 z0:=Tryz.sizeOf0
 v0:=Tryz.zeroValue0
 t3:=Tryz.underlying3
 a3:=Tryz.isAgg3
 z3:=Tryz.sizeOf3
 v3:=Tryz.zeroValue3
 t4:=Tryz.underlying4
 a4:=Tryz.isAgg4
 z4:=Tryz.sizeOf4
 v4:=Tryz.zeroValue4
 t5:=Tryz.underlying5
 a5:=Tryz.isAgg5
 z5:=Tryz.sizeOf5
 v5:=Tryz.zeroValue5
 t9:=Tryz.underlying9
 a9:=Tryz.isAgg9
 z9:=Tryz.sizeOf9
 v9:=Tryz.zeroValue9
 t37:=Tryz.underlying118
 a37:=Tryz.isAgg118
 z37:=Tryz.sizeOf118
 v37:=Tryz.zeroValue118
 t127:=Tryz.underlying119
 a127:=Tryz.isAgg119
 z127:=Tryz.sizeOf119
 v127:=Tryz.zeroValue119
 i0:=by kernel_rfl
 i3:=by kernel_rfl
 i4:=by kernel_rfl
 i5:=by kernel_rfl
 i9:=by kernel_rfl
 i37:=by kernel_rfl
 i127:=by kernel_rfl }
theorem cloneQ (s:ByteArray) (w:World) (hs:s.size≤1000000000):Calls Tryz.prog 21 #[.string s] w fun e w'=>e = .returned (.string s)∧Below w.heap.size w w':=by
 have HC:=fun u=>Any.stringslite_Clone lays316 s u (by omega)
 change ∀ u,Calls Tryz.prog 39 _ u _ at HC
 go_enter Tryz.func21,Tryz.ntmps21
 go_wp2_with fail
 refine (HC _).mono ?_
 rintro e w1 ⟨rfl,hb⟩
 go_wp2
 go_ret
 exact ⟨rfl,hb⟩
end Go.Proofs.YtceigfafmalfgaaGreatDoor
namespace Go.Proofs.YtceigfafmalfgaaGreatDoor
open Go.RowKit
theorem Rw.set {t:TypeId} {w:World} {R:Nat} {cs:Array Value} (h:Rw t w R cs) (i:Nat) (v:Value):Rw t (w.setCell ⟨R,i,none⟩ v) R (cs.setIfInBounds i v)∧Off R w (w.setCell ⟨R,i,none⟩ v):=by
 refine ⟨?_,(Off.refl _ _).set i v⟩
 unfold Rw at *
 simp [World.setCell,Array.getElem?_modify,h]
def bat (h:Bool) (r:Rat):Rat:=if h then r else 0
theorem bndI:(Tryz.prog.info? 49).map (·.size)=some 4:=by kernel_rfl
set_option maxRecDepth 100000 in
set_option maxHeartbeats 4000000 in
theorem tidyBoundQ {h p:Bool} {a:Option Addr} {na ca:Nat} {d:Option Addr} {nd cd:Nat} {r:Rat} {S:Nat} (w:World) (hr:TR w p a na ca d nd cd r S) (hS:S≤7000000) (hS1:1≤S) (hT:TB w) :
  Calls Tryz.prog 23 #[.agg #[.bool h,.bool p,.slice a na ca,.slice d nd cd]] w fun e w'=>∃ f c n k c' n' k',e = .returned (.agg #[.bool h,.bool f,.slice c n k,.slice c' n' k'])∧GR w' w.heap.size f c n k c' n' k' (bat h r) S∧Below w.heap.size w w':=by
 have N:=box_new w #[.bool h,.bool p,.slice a na ca,.slice d nd cd] 49
 have hz:=bel_d0 w (.cells #[.bool h,.bool p,.slice a na ca,.slice d nd cd] 49)
 have hs:(w.alloc (.cells #[.bool h,.bool p,.slice a na ca,.slice d nd cd] 49)).heap.size=w.heap.size+1:=by simp
 have R0:=Rw.new 49 (w.alloc (.cells #[.bool h,.bool p,.slice a na ca,.slice d nd cd] 49)) #[.bool false,.bool false,.slice none 0 0,.slice none 0 0]
 rw [hs] at R0
 replace N:=N.below (bel_d0 (w.alloc (.cells #[.bool h,.bool p,.slice a na ca,.slice d nd cd] 49)) (.cells #[.bool false,.bool false,.slice none 0 0,.slice none 0 0] 49))
 replace hz:=bel_tr hz (bel_d0 (w.alloc (.cells #[.bool h,.bool p,.slice a na ca,.slice d nd cd] 49)) (.cells #[.bool false,.bool false,.slice none 0 0,.slice none 0 0] 49))
 clear hs
 have n0:=N 0 _ rfl
 have n1:=N 1 _ rfl
 have n2:=N 2 _ rfl
 have n3:=N 3 _ rfl
 clear N
 have hr1:=hr.below hz
 have hT1:=hT.below hz
 go_enter Tryz.func23,Tryz.ntmps23
 cases h with
 | false =>
  go_wp2_with fail
  refine (ofQ 0 _ (by decide) (by decide)).mono ?_
  rintro e w2 ⟨f,c,n,k,c',n',k',rfl,G,hb⟩
  have R1:=R0.below hb
  go_wp2_with (refine R1.put #[.bool false,.bool f,.slice c n k,.slice c' n' k'] rfl _ _ rfl rfl rfl bndI rfl (by simp [Value.oneCell']) ?_)
  intro w3 R2 O2
  go_wp2
  have hs1:=hz.size
  have hs2:=hb.size
  have hs3:=R0.lt
  have G2:=G.off O2 (by omega)
  have hb3:Below w.heap.size w w3:=(bel_tr hz hb).trans (O2.below (by omega))
  have e0:((0:Int):Rat)=bat false r:=rfl
  exact bodyPost_ret (R2.ret1 Tryz.results23 _ rfl Tryz.underlying49 bndI) rfl ⟨f,c,n,k,c',n',k',rfl,((G2.mono (by omega)).le hS1).val e0,hb3⟩
 | true =>
  go_wp2_with fail
  refine (normR _ hr1 hS hS1 hT1).mono ?_
  rintro e w2 ⟨f,c,n,k,c',n',k',rfl,G,hb⟩
  have R1:=R0.below hb
  go_wp2_with (refine R1.put #[.bool true,.bool f,.slice c n k,.slice c' n' k'] rfl _ _ rfl rfl rfl bndI rfl (by simp [Value.oneCell']) ?_)
  intro w3 R2 O2
  go_wp2
  have hs1:=hz.size
  have hs2:=hb.size
  have hs3:=R0.lt
  have G2:=G.off O2 (by omega)
  have hb3:Below w.heap.size w w3:=(bel_tr hz hb).trans (O2.below (by omega))
  exact bodyPost_ret (R2.ret1 Tryz.results23 _ rfl Tryz.underlying49 bndI) rfl ⟨f,c,n,k,c',n',k',rfl,G2.mono (by omega),hb3⟩
theorem Rw.set7 {t:TypeId} {w:World} {R:Nat} {a0 a1 a2 a3 a4 a5 a6:Value} (h:Rw t w R #[a0,a1,a2,a3,a4,a5,a6]) (b0 b1 b2 b3 b4 b5 b6:Value) :
  Rw t (((((((w.setCell ⟨R,0,none⟩ b0).setCell ⟨R,1,none⟩ b1).setCell ⟨R,2,none⟩ b2).setCell ⟨R,3,none⟩ b3).setCell ⟨R,4,none⟩ b4).setCell ⟨R,5,none⟩ b5).setCell ⟨R,6,none⟩ b6) R #[b0,b1,b2,b3,b4,b5,b6] ∧
  Off R w (((((((w.setCell ⟨R,0,none⟩ b0).setCell ⟨R,1,none⟩ b1).setCell ⟨R,2,none⟩ b2).setCell ⟨R,3,none⟩ b3).setCell ⟨R,4,none⟩ b4).setCell ⟨R,5,none⟩ b5).setCell ⟨R,6,none⟩ b6):=by
 refine ⟨?_,((((((Off.refl _ _).set 0 b0).set 1 b1).set 2 b2).set 3 b3).set 4 b4).set 5 b5 |>.set 6 b6⟩
 have:=(((((((h.set 0 b0).1.set 1 b1).1.set 2 b2).1.set 3 b3).1.set 4 b4).1.set 5 b5).1.set 6 b6).1
 simpa using this
theorem prbI:(Tryz.prog.info? 31).map (·.size)=some 7:=by kernel_rfl
def VC (w:World) (B:Nat) (cs:List Value) (v:PV) (Y:Nat):Prop :=
 ∃ p1 a1 n1 k1 d1 m1 l1 p2 a2 n2 k2 d2 m2 l2 p3 a3 n3 k3 d3 m3 l3,cs=[.string v.nm,.bool p1,.slice a1 n1 k1,.slice d1 m1 l1,.bool v.hlo,.bool p2,.slice a2 n2 k2,.slice d2 m2 l2,.bool v.hhi,.bool p3,.slice a3 n3 k3,.slice d3 m3 l3,.bool v.whole] ∧
  GR w B p1 a1 n1 k1 d1 m1 l1 v.obj Y∧GR w B p2 a2 n2 k2 d2 m2 l2 (bat v.hlo v.lo) Y∧GR w B p3 a3 n3 k3 d3 m3 l3 (bat v.hhi v.hi) Y
theorem VC.below {w w':World} {B:Nat} {cs:List Value} {v:PV} {Y:Nat} (h:VC w B cs v Y) (hb:Below w.heap.size w w'):VC w' B cs v Y:=by
 obtain ⟨p1,a1,n1,k1,d1,m1,l1,p2,a2,n2,k2,d2,m2,l2,p3,a3,n3,k3,d3,m3,l3,e,g1,g2,g3⟩:=h
 exact ⟨p1,a1,n1,k1,d1,m1,l1,p2,a2,n2,k2,d2,m2,l2,p3,a3,n3,k3,d3,m3,l3,e,g1.below hb,g2.below hb,g3.below hb⟩
theorem VC.keep {w w':World} {B:Nat} {cs:List Value} {v:PV} {Y:Nat} (h:VC w B cs v Y) {row:Option Nat} (hn:NoW w row) (hg:w.grownBy w' row):VC w' B cs v Y:=by
 obtain ⟨p1,a1,n1,k1,d1,m1,l1,p2,a2,n2,k2,d2,m2,l2,p3,a3,n3,k3,d3,m3,l3,e,g1,g2,g3⟩:=h
 exact ⟨p1,a1,n1,k1,d1,m1,l1,p2,a2,n2,k2,d2,m2,l2,p3,a3,n3,k3,d3,m3,l3,e,g1.keep hn hg,g2.keep hn hg,g3.keep hn hg⟩
theorem TC.keep {w w':World} {B:Nat} {cs:List Value} {t:PT} {Y:Nat} (h:TC w B cs t Y) {row:Option Nat} (hn:NoW w row) (hg:w.grownBy w' row):TC w' B cs t Y:=by
 obtain ⟨p,a,na,ca,d,nd,cd,e,g⟩:=h
 exact ⟨p,a,na,ca,d,nd,cd,e,g.keep hn hg⟩
theorem TL.below {w w':World} {B:Nat} {v:Value} {m:Nat} {u:Nat→PT} {Y:Nat→Nat} (h:TL w B v m u Y) (hb:Below w.heap.size w w'):TL w' B v m u Y:=by
 obtain ⟨E,h1,h2⟩:=h
 exact ⟨E,h1.below hb,fun i hi=>(h2 i hi).below hb⟩
theorem TL.keep {w w':World} {B:Nat} {v:Value} {m:Nat} {u:Nat→PT} {Y:Nat→Nat} (h:TL w B v m u Y) {row:Option Nat} (hn:NoW w row) (hne:∀ g,v.ownBlock=some g→row≠some g) (hg:w.grownBy w' row):TL w' B v m u Y:=by
 obtain ⟨E,h1,h2⟩:=h
 exact ⟨E,h1.kept hg hne,fun i hi=>(h2 i hi).keep hn hg⟩
theorem TL.mono {w:World} {B B':Nat} {v:Value} {m:Nat} {u:Nat→PT} {Y:Nat→Nat} (h:TL w B v m u Y) (hB:B'≤B):TL w B' v m u Y:=by
 obtain ⟨E,h1,h2⟩:=h
 exact ⟨E,h1.mono hB,fun i hi=>(h2 i hi).mono hB⟩
theorem TL.form {w:World} {B:Nat} {v:Value} {m:Nat} {u:Nat→PT} {Y:Nat→Nat} (h:TL w B v m u Y):∃ a cap,v = .slice a m cap∧m≤cap:=by
 obtain ⟨E,h1,h2⟩:=h
 exact h1.form
def RC (w:World) (B:Nat) (cs:List Value) (r:PW) (n:Nat) (Y:Nat):Prop :=
 ∃ v m u Z p2 a2 n2 k2 d2 m2 l2 p3 a3 n3 k3 d3 m3 l3,cs=[.string r.nm,v,.bool r.hlo,.bool p2,.slice a2 n2 k2,.slice d2 m2 l2,.bool r.hhi,.bool p3,.slice a3 n3 k3,.slice d3 m3 l3] ∧
  Gath r.t r.nt n u m∧(∀ q,q<r.nt→SzR (r.t q).coef (Z q)∧1≤Z q)∧tot Z r.nt≤Y∧TL w B v m u (fun i=>zs r.t Z (u i).var r.nt-1)∧GR w B p2 a2 n2 k2 d2 m2 l2 (bat r.hlo r.lo) Y∧GR w B p3 a3 n3 k3 d3 m3 l3 (bat r.hhi r.hi) Y
theorem RC.below {w w':World} {B:Nat} {cs:List Value} {r:PW} {n Y:Nat} (h:RC w B cs r n Y) (hb:Below w.heap.size w w'):RC w' B cs r n Y:=by
 obtain ⟨v,m,u,Z,p2,a2,n2,k2,d2,m2,l2,p3,a3,n3,k3,d3,m3,l3,e,g1,z1,z2,t1,g2,g3⟩:=h
 exact ⟨v,m,u,Z,p2,a2,n2,k2,d2,m2,l2,p3,a3,n3,k3,d3,m3,l3,e,g1,z1,z2,t1.below hb,g2.below hb,g3.below hb⟩
theorem RC.keep {w w':World} {B:Nat} {cs:List Value} {r:PW} {n Y:Nat} (h:RC w B cs r n Y) {row:Option Nat} (hn:NoW w row) (hne:∀ g,row=some g→∃ cur T,w.heap[g]? = some (.cells cur T (0,0))∧T≠56) (hg:w.grownBy w' row):RC w' B cs r n Y:=by
 obtain ⟨v,m,u,Z,p2,a2,n2,k2,d2,m2,l2,p3,a3,n3,k3,d3,m3,l3,e,g1,z1,z2,t1,g2,g3⟩:=h
 refine ⟨v,m,u,Z,p2,a2,n2,k2,d2,m2,l2,p3,a3,n3,k3,d3,m3,l3,e,g1,z1,z2,t1.keep hn ?_ hg,g2.keep hn hg,g3.keep hn hg⟩
 intro g e1 e2
 obtain ⟨cur,T,f2,hT⟩:=hne g e2
 obtain ⟨E,⟨vs,h1,_⟩,_⟩:=t1
 rcases h1.2 with ⟨rfl,_⟩|⟨g',cap,cur',e3,_,f1,_⟩
 ·cases e1
 ·subst e3
  simp [Value.ownBlock] at e1
  subst e1
  rw [f1] at f2
  simp only [Option.some.injEq,Obj.cells.injEq] at f2
  exact hT f2.2.1.symm
theorem VC.mono {w:World} {B B':Nat} {cs:List Value} {v:PV} {Y:Nat} (h:VC w B cs v Y) (hB:B'≤B):VC w B' cs v Y:=by
 obtain ⟨p1,a1,n1,k1,d1,m1,l1,p2,a2,n2,k2,d2,m2,l2,p3,a3,n3,k3,d3,m3,l3,e,g1,g2,g3⟩:=h
 exact ⟨p1,a1,n1,k1,d1,m1,l1,p2,a2,n2,k2,d2,m2,l2,p3,a3,n3,k3,d3,m3,l3,e,g1.mono hB,g2.mono hB,g3.mono hB⟩
theorem RC.mono {w:World} {B B':Nat} {cs:List Value} {r:PW} {n Y:Nat} (h:RC w B cs r n Y) (hB:B'≤B):RC w B' cs r n Y:=by
 obtain ⟨v,m,u,Z,p2,a2,n2,k2,d2,m2,l2,p3,a3,n3,k3,d3,m3,l3,e,g1,z1,z2,t1,g2,g3⟩:=h
 exact ⟨v,m,u,Z,p2,a2,n2,k2,d2,m2,l2,p3,a3,n3,k3,d3,m3,l3,e,g1,z1,z2,t1.mono hB,g2.mono hB,g3.mono hB⟩
def NoT (w:World) (row:Option Nat):Prop:=∀ g,row=some g→∃ cur T,w.heap[g]? = some (.cells cur T (0,0))∧T≠56
theorem Rw.noT {t:TypeId} {w:World} {R:Nat} {cs:Array Value} (h:Rw t w R cs) (ht:t≠56):NoT w (some R):=fun g e=>by cases e;exact ⟨cs,t,h,ht⟩
theorem SL.noT {w:World} {B:Nat} {T:TypeId} {c:Nat} {v:Value} {n:Nat} {E:Nat→List Value} (h:SL w B T c v n E) (ht:T≠56):NoT w v.ownBlock:=by
 intro g e
 obtain ⟨vs,h1,_⟩:=h
 rcases h1.2 with ⟨rfl,_⟩|⟨g',cap,cur,e1,_,f1,_⟩
 ·cases e
 ·subst e1
  simp [Value.ownBlock] at e
  subst e
  exact ⟨cur,T,f1,ht⟩
theorem ne_of_noT {w:World} {B:Nat} {v:Value} {m:Nat} {u:Nat→PT} {Y:Nat→Nat} (h:TL w B v m u Y) {row:Option Nat} (hn:NoT w row):∀ g,v.ownBlock=some g→row≠some g:=by
 intro g e1 e2
 obtain ⟨cur,T,f2,hT⟩:=hn g e2
 obtain ⟨E,⟨vs,h1,_⟩,_⟩:=h
 rcases h1.2 with ⟨rfl,_⟩|⟨g',cap,cur',e3,_,f1,_⟩
 ·cases e1
 ·subst e3
  simp [Value.ownBlock] at e1
  subst e1
  rw [f1] at f2
  simp only [Option.some.injEq,Obj.cells.injEq] at f2
  exact hT f2.2.1.symm
def TO (w:World) (B:Nat) (P:Prob) (v:Value):Prop :=
 ∃ f c n k c' n' k' va vc ra rc E F,v = .agg #[.bool P.mx,.string P.nm,.bool f,.slice c n k,.slice c' n' k',.slice va P.vn vc,.slice ra P.rn rc]∧GR w B f c n k c' n' k' P.k P.S ∧
  SL w B 51 13 (.slice va P.vn vc) P.vn E∧(∀ q,q<P.vn→VC w B (E q) (P.V q) (P.ZV q))∧SL w B 54 10 (.slice ra P.rn rc) P.rn F∧(∀ q,q<P.rn→RC w B (F q) (P.R q) P.vn (P.ZR q))
def Ch (B C n:Nat) (Pd:Nat→Nat→Nat→Prop):Prop:=∃ lo:Nat→Nat,(∀ q,q<n→lo q≤lo (q+1)∧Pd q (lo q) (lo (q+1)))∧B≤lo 0∧lo n≤C
theorem Ch.nil {B C:Nat} (h:B≤C) (Pd:Nat→Nat→Nat→Prop):Ch B C 0 Pd:=⟨fun _=>B,fun q hq=>by omega,Nat.le_refl _,h⟩
theorem Ch.imp {B C n:Nat} {Pd Pe:Nat→Nat→Nat→Prop} (h:Ch B C n Pd) (hi:∀ q,q<n→∀ l r,Pd q l r→Pe q l r):Ch B C n Pe:=by
 obtain ⟨lo,h1,h2⟩:=h
 exact ⟨lo,fun q hq=>⟨(h1 q hq).1,hi q hq _ _ (h1 q hq).2⟩,h2⟩
theorem Ch.up {B C C' n:Nat} {Pd:Nat→Nat→Nat→Prop} (h:Ch B C n Pd) (hC:C≤C'):Ch B C' n Pd:=by
 obtain ⟨lo,h1,h2,h3⟩:=h
 exact ⟨lo,h1,h2,Nat.le_trans h3 hC⟩
theorem Ch.at {B C n:Nat} {Pd:Nat→Nat→Nat→Prop} (h:Ch B C n Pd) {q:Nat} (hq:q<n):∃ l r,B≤l∧l≤r∧r≤C∧Pd q l r:=by
 obtain ⟨lo,h1,h2,h3⟩:=h
 have L0:=RA.le0 (fun i hi=>(h1 i hi).1)
 have:=L0 q (by omega) 0 (Nat.zero_le _)
 have:=L0 n (Nat.le_refl _) (q+1) (by omega)
 exact ⟨_,_,by omega,(h1 q hq).1,by omega,(h1 q hq).2⟩
theorem Ch.snoc {B C C' D n:Nat} {Pd:Nat→Nat→Nat→Prop} (h:Ch B C n Pd) (hC:C≤C') (hD:C'≤D) (hu:∀ q,q<n→∀ l r r',r≤r'→Pd q l r→Pd q l r') (hn:Pd n C' D):Ch B D (n+1) Pd:=by
 obtain ⟨lo,h1,h2,h3⟩:=h
 have L0:=RA.le0 (fun i hi=>(h1 i hi).1)
 refine ⟨fun i=>if i<n then lo i else if i=n then C' else D,fun q hq=>?_,?_,?_⟩
 ·rcases (by omega:q<n∨q=n) with hq'|rfl
  ·obtain ⟨k0,k1⟩:=h1 q hq'
   simp only [hq',if_true]
   have hle:lo (q+1)≤(if q+1<n then lo (q+1) else if q+1=n then C' else D):=by
    by_cases h7:q+1<n
    ·rw [if_pos h7];exact Nat.le_refl _
    ·have h8:q+1=n:=by omega
     rw [if_neg h7,if_pos h8,h8];omega
   exact ⟨Nat.le_trans k0 hle,hu q hq' _ _ _ hle k1⟩
  ·have e1:¬ q+1<q:=by omega
   have e2:¬ q+1=q:=by omega
   simp only [Nat.lt_irrefl,if_false,if_true,e1,e2]
   exact ⟨hD,hn⟩
 ·by_cases h7:0<n
  ·simp only [h7,if_true];exact h2
  ·obtain rfl:n=0:=by omega
   simp only [Nat.lt_irrefl,if_false,if_true];omega
 ·have e1:¬ n+1<n:=by omega
  have e2:¬ n+1=n:=by omega
  simp only [e1,e2,if_false];exact Nat.le_refl _
def VCA (w:World) (a b:Nat) (cs:List Value) (v:PV) (Y:Nat):Prop :=
 ∃ s1 s2 l1 l2 l3,cs = .string v.nm::(l1 ++ .bool v.hlo::(l2 ++ .bool v.hhi::(l3++[.bool v.whole])))∧NG w a s1 l1 v.obj Y∧NG w s1 s2 l2 (bat v.hlo v.lo) Y∧NG w s2 b l3 (bat v.hhi v.hi) Y∧a≤s1∧s1≤s2∧s2≤b
theorem VCA.below {w w':World} {a b:Nat} {cs:List Value} {v:PV} {Y:Nat} (h:VCA w a b cs v Y) (hb:Below w.heap.size w w'):VCA w' a b cs v Y:=by
 obtain ⟨s1,s2,l1,l2,l3,e,g1,g2,g3,h⟩:=h
 exact ⟨s1,s2,l1,l2,l3,e,g1.below hb,g2.below hb,g3.below hb,h⟩
theorem VCA.keep {w w':World} {a b:Nat} {cs:List Value} {v:PV} {Y:Nat} (h:VCA w a b cs v Y) {row:Option Nat} (hn:NoW w row) (hg:w.grownBy w' row):VCA w' a b cs v Y:=by
 obtain ⟨s1,s2,l1,l2,l3,e,g1,g2,g3,h⟩:=h
 exact ⟨s1,s2,l1,l2,l3,e,g1.keep hn hg,g2.keep hn hg,g3.keep hn hg,h⟩
theorem VCA.up {w:World} {a b b':Nat} {cs:List Value} {v:PV} {Y:Nat} (h:VCA w a b cs v Y) (hb:b≤b'):VCA w a b' cs v Y:=by
 obtain ⟨s1,s2,l1,l2,l3,e,g1,g2,g3,h1,h2,h3⟩:=h
 exact ⟨s1,s2,l1,l2,l3,e,g1,g2,g3.up hb,h1,h2,by omega⟩
theorem VCA.vc {w:World} {a b:Nat} {cs:List Value} {v:PV} {Y:Nat} (h:VCA w a b cs v Y):VC w a cs v Y:=by
 obtain ⟨s1,s2,l1,l2,l3,e,⟨p1,a1,n1,k1,d1,m1,q1,rfl,g1,_⟩,⟨p2,a2,n2,k2,d2,m2,q2,rfl,g2,_⟩,⟨p3,a3,n3,k3,d3,m3,q3,rfl,g3,_⟩,h1,h2,h3⟩:=h
 exact ⟨p1,a1,n1,k1,d1,m1,q1,p2,a2,n2,k2,d2,m2,q2,p3,a3,n3,k3,d3,m3,q3,e,g1,g2.mono h1,g3.mono (by omega)⟩
def RCA (w:World) (a b:Nat) (cs:List Value) (r:PW) (n:Nat) (Y:Nat):Prop :=
 ∃ s1 s2 v m u Z l2 l3,cs = .string r.nm::v :: .bool r.hlo::(l2 ++ .bool r.hhi::l3)∧Gath r.t r.nt n u m∧(∀ q,q<r.nt→SzR (r.t q).coef (Z q)∧1≤Z q)∧tot Z r.nt≤Y∧TLA w a s1 v m u (fun x=>zs r.t Z x r.nt-1)∧NG w s1 s2 l2 (bat r.hlo r.lo) Y∧NG w s2 b l3 (bat r.hhi r.hi) Y∧a≤s1∧s1≤s2∧s2≤b
theorem RCA.below {w w':World} {a b:Nat} {cs:List Value} {r:PW} {n Y:Nat} (h:RCA w a b cs r n Y) (hb:Below w.heap.size w w'):RCA w' a b cs r n Y:=by
 obtain ⟨s1,s2,v,m,u,Z,l2,l3,e,g1,z1,z2,t1,g2,g3,h⟩:=h
 exact ⟨s1,s2,v,m,u,Z,l2,l3,e,g1,z1,z2,t1.below hb,g2.below hb,g3.below hb,h⟩
theorem RCA.keep {w w':World} {a b:Nat} {cs:List Value} {r:PW} {n Y:Nat} (h:RCA w a b cs r n Y) {row:Option Nat} (hn:NoW w row) (ht:NoT w row) (hg:w.grownBy w' row):RCA w' a b cs r n Y:=by
 obtain ⟨s1,s2,v,m,u,Z,l2,l3,e,g1,z1,z2,t1,g2,g3,h⟩:=h
 exact ⟨s1,s2,v,m,u,Z,l2,l3,e,g1,z1,z2,t1.keep hn (ne_of_noT t1.tl ht) hg,g2.keep hn hg,g3.keep hn hg,h⟩
theorem RCA.up {w:World} {a b b':Nat} {cs:List Value} {r:PW} {n Y:Nat} (h:RCA w a b cs r n Y) (hb:b≤b'):RCA w a b' cs r n Y:=by
 obtain ⟨s1,s2,v,m,u,Z,l2,l3,e,g1,z1,z2,t1,g2,g3,h1,h2,h3⟩:=h
 exact ⟨s1,s2,v,m,u,Z,l2,l3,e,g1,z1,z2,t1,g2,g3.up hb,h1,h2,by omega⟩
theorem RCA.rc {w:World} {a b:Nat} {cs:List Value} {r:PW} {n Y:Nat} (h:RCA w a b cs r n Y):RC w a cs r n Y:=by
 obtain ⟨s1,s2,v,m,u,Z,l2,l3,e,g1,z1,z2,t1,⟨p2,a2,n2,k2,d2,m2,q2,rfl,g2,_⟩,⟨p3,a3,n3,k3,d3,m3,q3,rfl,g3,_⟩,h1,h2,h3⟩:=h
 exact ⟨v,m,u,Z,p2,a2,n2,k2,d2,m2,q2,p3,a3,n3,k3,d3,m3,q3,e,g1,z1,z2,t1.tl,g2.mono h1,g3.mono (by omega)⟩
def TOA (w:World) (B C:Nat) (P:Prob) (v:Value):Prop :=
 ∃ f c n k c' n' k' va vc ra rc E F s1 s2,v = .agg #[.bool P.mx,.string P.nm,.bool f,.slice c n k,.slice c' n' k',.slice va P.vn vc,.slice ra P.rn rc]∧NG w B s1 [.bool f,.slice c n k,.slice c' n' k'] P.k P.S ∧
  SL w B 51 13 (.slice va P.vn vc) P.vn E∧Ch s1 s2 P.vn (fun q l r=>VCA w l r (E q) (P.V q) (P.ZV q))∧SL w B 54 10 (.slice ra P.rn rc) P.rn F∧Ch s2 C P.rn (fun q l r=>RCA w l r (F q) (P.R q) P.vn (P.ZR q))∧B≤s1∧s1≤s2∧s2≤C ∧
  (∀ g,(Value.slice va P.vn vc).ownBlock=some g→g<C)∧(∀ g,(Value.slice ra P.rn rc).ownBlock=some g→g<C)
theorem TOA.to {w:World} {B C:Nat} {P:Prob} {v:Value} (h:TOA w B C P v):TO w B P v:=by
 obtain ⟨f,c,n,k,c',n',k',va,vc,ra,rc,E,F,s1,s2,e,g,S1,C1,S2,C2,h1,h2,h3,_⟩:=h
 refine ⟨f,c,n,k,c',n',k',va,vc,ra,rc,E,F,e,g.gr,S1,fun q hq=>?_,S2,fun q hq=>?_⟩
 ·obtain ⟨l,r,a1,a2,a3,a4⟩:=C1.at hq
  exact a4.vc.mono (by omega)
 ·obtain ⟨l,r,a1,a2,a3,a4⟩:=C2.at hq
  exact a4.rc.mono (by omega)
end Go.Proofs.YtceigfafmalfgaaGreatDoor
