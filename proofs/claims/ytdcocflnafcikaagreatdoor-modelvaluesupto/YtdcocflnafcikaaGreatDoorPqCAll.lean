import Derived.Test.YtdcocflnafcikaaGreatDoorOpenPAll
import Derived.Test.YtdcocflnafcikaaGreatDoorPqBAll
import Derived.Test.YtdcocflnafcikaaGreatDoorR3LiAll
namespace Go.Proofs.YtdcocflnafcikaaGreatDoor
open Go.RowKit
def BoxC (w:World) (R:Nat) (cs:List Value):Prop:=∀ i u,cs[i]? = some u→w.cell? ⟨R,i,none⟩=some u
theorem box_new (w:World) (cs:Array Value) (t:TypeId):BoxC (w.alloc (.cells cs t)) w.heap.size cs.toList:=by
 intro i u hu
 have h:(w.alloc (.cells cs t)).heap[w.heap.size]? = some (.cells cs t):=heap_alloc_new _ _
 unfold World.cell?
 rw [h]
 simpa using hu
theorem BoxC.below {w w':World} {R:Nat} {cs:List Value} (h:BoxC w R cs) (hb:Below w.heap.size w w'):BoxC w' R cs:=fun i u hu=>kept_c hb (h i u hu)
theorem boxc3 (w:World) (c0:Array Value) (t0:TypeId) (c1:Array Value) (t1:TypeId) (c2:Array Value) (t2:TypeId):let W:=((w.alloc (.cells c0 t0)).alloc (.cells c1 t1)).alloc (.cells c2 t2);BoxC W w.heap.size c0.toList∧BoxC W (w.heap.size+1) c1.toList∧BoxC W (w.heap.size+2) c2.toList∧Below w.heap.size w W∧W.heap.size=w.heap.size+3:=by
 have e1:(w.alloc (.cells c0 t0)).heap.size=w.heap.size+1:=by simp
 have e2:((w.alloc (.cells c0 t0)).alloc (.cells c1 t1)).heap.size=w.heap.size+2:=by simp
 have P1:=box_new (w.alloc (.cells c0 t0)) c1 t1
 have P2:=box_new ((w.alloc (.cells c0 t0)).alloc (.cells c1 t1)) c2 t2
 rw [e1] at P1
 rw [e2] at P2
 exact ⟨((box_new w c0 t0).below (bel_d0 _ _)).below (bel_d0 _ _),P1.below (bel_d0 _ _),P2,bel_a (bel_a (bel_d0 _ _)),by simp⟩
def Ov (D A:Int) (r:Rat):Prop:=∃ m:Int,r*(D:Rat)=(m:Rat)∧(m.natAbs:Int)≤A*D
theorem Ov.lift {D A E:Int} {r:Rat} (h:Ov D A r) (hE:0≤E):Ov (D*E) A r:=by
 obtain ⟨m,h1,h2⟩:=h
 refine ⟨m*E,by rw [Rat.intCast_mul,← Rat.mul_assoc,h1,Rat.intCast_mul],?_⟩
 rw [Int.natAbs_mul,Int.natCast_mul,Int.natAbs_of_nonneg hE,← Int.mul_assoc]
 exact Int.mul_le_mul_of_nonneg_right h2 hE
theorem Ov.lift' {D A E:Int} {r:Rat} (h:Ov D A r) (hE:0≤E):Ov (E*D) A r:=by rw [Int.mul_comm];exact h.lift hE
theorem Ov.add {D A B:Int} {r s:Rat} (h:Ov D A r) (k:Ov D B s):Ov D (A+B) (r+s):=by
 obtain ⟨m,h1,h2⟩:=h
 obtain ⟨n,k1,k2⟩:=k
 refine ⟨m+n,by rw [Rat.add_mul,h1,k1,Rat.intCast_add],?_⟩
 rw [Int.add_mul]
 omega
theorem Ov.mul {D E A B:Int} {r s:Rat} (h:Ov D A r) (k:Ov E B s):Ov (D*E) (A*B) (r*s):=by
 obtain ⟨m,h1,h2⟩:=h
 obtain ⟨n,k1,k2⟩:=k
 refine ⟨m*n,?_,?_⟩
 ·rw [Rat.intCast_mul,Rat.intCast_mul,← h1,← k1,Rat.mul_assoc,Rat.mul_assoc]
  congr 1
  rw [← Rat.mul_assoc,Rat.mul_comm s,Rat.mul_assoc]
 ·rw [Int.natAbs_mul,Int.natCast_mul]
  have e:A*B*(D*E)=(A*D)*(B*E):=by
   rw [Int.mul_assoc,Int.mul_assoc]
   congr 1
   rw [← Int.mul_assoc,Int.mul_comm B,Int.mul_assoc]
  rw [e]
  exact Int.mul_le_mul h2 k2 (by omega) (by omega)
theorem Ov.zero {D:Int}:Ov D 0 0:=⟨0,by rw [Rat.zero_mul];rfl,by simp⟩
theorem Ov.self {r:Rat} {T:Nat} (h:SzR r T):Ov (r.den:Int) (pw T) r:=by
 refine ⟨r.num,?_,?_⟩
 ·have hd:(((r.den:Int)):Rat)≠0:=by
   intro e
   have e2:(r.den:Int)=0:=by exact_mod_cast e
   have:=r.den_pos
   omega
  have e1:r=(r.num:Rat)/((r.den:Int):Rat):=by rw [← Rat.divInt_eq_div,Rat.num_divInt_den]
  have e2:r*((r.den:Int):Rat)=(r.num:Rat)/((r.den:Int):Rat)*((r.den:Int):Rat):=congrArg (· * ((r.den:Int):Rat)) e1
  rw [e2,Rat.div_mul_cancel hd]
 ·have h1:=h.1
  have hd:(1:Int)≤(r.den:Int):=by have:=r.den_pos;omega
  have h2:pw T*1≤pw T*(r.den:Int):=Int.mul_le_mul_of_nonneg_left hd (Int.le_of_lt (pw_pos T))
  omega
theorem Ov.sz {D A:Int} {r:Rat} {a d:Nat} (h:Ov D A r) (hD:0<D) (hd:D<pw d) (hA:A<pw a) (ha:1≤a+d):SzR r (a+d):=by
 obtain ⟨m,h1,h2⟩:=h
 have e:r=Rat.divInt m D:=by
  have hD0:(D:Rat)≠0:=by
   intro e
   have:D=0:=by exact_mod_cast e
   omega
  rw [Rat.divInt_eq_div,← h1,Rat.div_def,Rat.mul_assoc,Rat.mul_inv_cancel _ hD0,Rat.mul_one]
 rw [e]
 have h3:A*D<pw (a+d):=by
  rcases Int.lt_or_le A 0 with hn|hp
  ·have h5:A*D≤0:=Int.mul_nonpos_of_nonpos_of_nonneg (Int.le_of_lt hn) (Int.le_of_lt hD)
   have:=pw_pos (a+d)
   omega
  ·have e1:(A.natAbs:Int)=A:=Int.natAbs_of_nonneg hp
   have e2:(D.natAbs:Int)=D:=Int.natAbs_of_nonneg (Int.le_of_lt hD)
   have h6:=mul_lt (x:=A) (y:=D) (S:=a) (R:=d) (by omega) (by omega)
   have e3:((A*D).natAbs:Int)=A*D:=Int.natAbs_of_nonneg (Int.mul_nonneg hp (Int.le_of_lt hD))
   omega
 refine divInt_sz (by omega) ?_ ha
 have:=pw_mono (show d≤a+d by omega)
 omega
def dprod (X:Nat→Rat):Nat→Int
 | 0=>1
 | n+1=>dprod X n*((X n).den:Int)
theorem dprod_pos (X:Nat→Rat):∀ n,0<dprod X n
 | 0=>by show (0:Int)<1;decide
 | n+1=>Int.mul_pos (dprod_pos X n) (by have:=(X n).den_pos;omega)
theorem dprod_lt {X:Nat→Rat} {Z:Nat→Nat}:∀ n,(∀ i,i<n→SzR (X i) (Z i))→dprod X n<pw (tot Z n)
 | 0,_=>by show (1:Int)<pw 1;decide
 | n+1,h=>by
  have h1:=dprod_lt n (fun i hi=>h i (by omega))
  have h2:=(h n (by omega)).2
  have p1:=dprod_pos X n
  have p2:=(X n).den_pos
  have e1:((dprod X n).natAbs:Int)=dprod X n:=Int.natAbs_of_nonneg (Int.le_of_lt p1)
  have h3:=mul_lt (x:=dprod X n) (y:=((X n).den:Int)) (S:=tot Z n) (R:=Z n) (by omega) (by simpa using h2)
  have e3:((dprod X n*((X n).den:Int)).natAbs:Int)=dprod X n*((X n).den:Int):=Int.natAbs_of_nonneg (Int.mul_nonneg (Int.le_of_lt p1) (by omega))
  have:=pw_mono (show tot Z n+Z n≤tot Z (n+1) by show _≤tot Z n+Z n+1;omega)
  show dprod X n*((X n).den:Int)<_
  omega
theorem dprod_ov {X:Nat→Rat} {Z:Nat→Nat} {T:Nat}:∀ n,(∀ i,i<n→SzR (X i) (Z i)∧Z i≤T)→∀ i,i<n→Ov (dprod X n) (pw T) (X i)
 | 0,_,i,hi=>by omega
 | n+1,h,i,hi=>by
  show Ov (dprod X n*((X n).den:Int)) _ _
  rcases (by omega:i<n∨i=n) with h1|rfl
  ·exact (dprod_ov n (fun i hi=>h i (by omega)) i h1).lift (by omega)
  ·exact (Ov.self ((h i (by omega)).1.le (h i (by omega)).2)).lift' (Int.le_of_lt (dprod_pos X i))
theorem rsum_ov {X:Nat→Rat} {D A:Int} {n:Nat} (h:∀ i,i<n→Ov D A (X i)):∀ k,k≤n→Ov D (k*A) (rsum X k)
 | 0,_=>by simp only [Int.natCast_zero,Int.zero_mul];exact Ov.zero
 | k+1,hk=>by
  have h1:=(rsum_ov h k (by omega)).add (h k (by omega))
  rw [show (((k+1:Nat):Int)*A)=(k:Int)*A+A by rw [Int.natCast_add,Int.add_mul,Int.natCast_one,Int.one_mul]]
  exact h1
set_option maxHeartbeats 2000000 in
theorem knownQ (P:Prob) (xa:Option Addr) (n xc m:Nat) (w:World) (hn:n≤xc) (hm:m=min n P.vn) :
  Calls Tryz.prog 42 #[P.val,.slice xa n xc] w fun e w'=>e = .returned (.slice xa m xc)∧Below w.heap.size w w':=by
 unfold Prob.val
 have x0:=bel_d0 w (.cells #[.bool P.mx,.string P.nm,.bool P.p,.slice P.a P.na P.ca,.slice P.d P.nd P.cd,.slice P.va P.vn P.vc,.slice P.ra P.rn P.rc] 31)
 go_enter Tryz.func42,Tryz.ntmps42
 go_wp2
 go_ret
 exact ⟨by rw [hm,show (min (n:Int) (P.vn:Int)).toNat=min n P.vn by omega];rfl,x0⟩
def prt (k:Rat) (V:Nat→PV) (X:Nat→Rat):Nat→Rat
 | 0=>k
 | i+1=>(V i).obj*X i
set_option maxRecDepth 100000 in
set_option maxHeartbeats 4000000 in
theorem valueQ (P:Prob) {xa:Option Addr} {n xc:Nat} {X:Nat→Rat} {Z:Nat→Nat} {S T m:Nat} (w:World) (hP:PQ w P) (hx:LQ w xa n X Z) (hn:n≤xc) (hm:m=min n P.vn) (hK:P.S≤S) (hz:∀ j,j<m→1≤Z j∧P.ZV j+Z j≤S)
  (hST:T+S≤6000000) (hT1:1≤T) (hsz:∀ j,j≤m+1→SzR (rsum (prt P.k P.V X) j) T) (hm1:m≤1048576) (hT:TB w) :
  Calls Tryz.prog 14 #[P.val,.slice xa n xc] w fun e w'=>∃ f c n1 k1 c' n' k',e = .returned (.agg #[.bool f,.slice c n1 k1,.slice c' n' k'])∧GR w' w.heap.size f c n1 k1 c' n' k' (rsum (prt P.k P.V X) (m+1)) T∧Below w.heap.size w w':=by
 have HS:Hid (∀ j,j≤m+1→SzR (rsum (prt P.k P.V X) j) T):=hsz
 clear hsz
 unfold Prob.val
 go_enter Tryz.func14,Tryz.ntmps14
 go_wp2_with fail
 obtain ⟨P0,P1,_,hb,hs⟩:=boxc3 w #[.bool P.mx,.string P.nm,.bool P.p,.slice P.a P.na P.ca,.slice P.d P.nd P.cd,.slice P.va P.vn P.vc,.slice P.ra P.rn P.rc] 31 #[.bool false,.slice none 0 0,.slice none 0 0] 27 #[.bool P.p,.slice P.a P.na P.ca,.slice P.d P.nd P.cd] 27
 have R0:Var3 (((w.alloc (.cells #[.bool P.mx,.string P.nm,.bool P.p,.slice P.a P.na P.ca,.slice P.d P.nd P.cd,.slice P.va P.vn P.vc,.slice P.ra P.rn P.rc] 31)).alloc (.cells #[.bool false,.slice none 0 0,.slice none 0 0] 27)).alloc (.cells #[.bool P.p,.slice P.a P.na P.ca,.slice P.d P.nd P.cd] 27)) (w.heap.size+1) (.bool false) (.slice none 0 0) (.slice none 0 0):=by
  have h:=(var3_new (w.alloc (.cells #[.bool P.mx,.string P.nm,.bool P.p,.slice P.a P.na P.ca,.slice P.d P.nd P.cd,.slice P.va P.vn P.vc,.slice P.ra P.rn P.rc] 31)) (.bool false) (.slice none 0 0) (.slice none 0 0) 27).alloc (.cells #[.bool P.p,.slice P.a P.na P.ca,.slice P.d P.nd P.cd] 27)
  simpa using h
 have L0:ML (((w.alloc (.cells #[.bool P.mx,.string P.nm,.bool P.p,.slice P.a P.na P.ca,.slice P.d P.nd P.cd,.slice P.va P.vn P.vc,.slice P.ra P.rn P.rc] 31)).alloc (.cells #[.bool false,.slice none 0 0,.slice none 0 0] 27)).alloc (.cells #[.bool P.p,.slice P.a P.na P.ca,.slice P.d P.nd P.cd] 27)) (w.heap.size+2) (.slice (some ⟨w.heap.size+2,0,none⟩) 1 1) 1 (prt P.k P.V X) S :=
  ML.one (EL.of_tr (((hP.k.up hK).below (bel_d0 _ _)).below (bel_d0 _ _)) (by simp)) (by simp) _ (by simp)
 generalize ((w.alloc (.cells #[.bool P.mx,.string P.nm,.bool P.p,.slice P.a P.na P.ca,.slice P.d P.nd P.cd,.slice P.va P.vn P.vc,.slice P.ra P.rn P.rc] 31)).alloc (.cells #[.bool false,.slice none 0 0,.slice none 0 0] 27)).alloc (.cells #[.bool P.p,.slice P.a P.na P.ca,.slice P.d P.nd P.cd] 27)=W at *
 refine (knownQ P xa n xc m W hn hm).mono ?_
 have hmn:m≤n:=by omega
 have hmv:m≤P.vn:=by omega
 clear hm
 rintro e w1 ⟨rfl,h1⟩
 have hs1:=Below.size h1
 replace P0:=P0.below h1
 replace R0:=R0.below h1
 replace L0:=L0.below (by omega) h1
 replace hb:=bel_tr hb h1
 clear h1 P1
 go_wp2
 go_loopw [5,15] (fun s5 s15 wr=>∃ (i:Nat),i≤m∧s15 = .int .i64 i∧ML wr (w.heap.size+2) s5 (i+1) (prt P.k P.V X) S∧Var3 wr (w.heap.size+1) (.bool false) (.slice none 0 0) (.slice none 0 0)∧BoxC wr w.heap.size #[.bool P.mx,.string P.nm,.bool P.p,.slice P.a P.na P.ca,.slice P.d P.nd P.cd,.slice P.va P.vn P.vc,.slice P.ra P.rn P.rc].toList∧Below w.heap.size w wr∧w.heap.size+3≤wr.heap.size) (fun _ s15 _=>m-(intOf s15).toNat)
 case atStart=>exact ⟨0,Nat.zero_le _,rfl,L0,R0,P0,hb,by omega⟩
 case round =>
  obtain ⟨i,hi,rfl,L,R,Pb,hbel,hsr⟩:=hrel
  clear L0 R0 P0 hb
  obtain ⟨o1,k1,rfl⟩:=L.form
  by_cases hlt:i<m
  ·have hkI:(i:Int)<(m:Int):=by omega
   obtain ⟨hz1,hz2⟩:=hz i hlt
   obtain ⟨q5,_⟩:wr.cell? ⟨w.heap.size,5,none⟩=some (.slice P.va P.vn P.vc)∧True:=⟨Pb 5 _ rfl,trivial⟩
   rcases (hx.below hbel) with h0|⟨bx,ox,rfl,hel⟩
   ·omega
   obtain ⟨pA,aA,nA,cA,dA,mA,lA,c0,c1,c2,hA⟩:=hel i (by omega)
   rcases (hP.v.below hbel) with h0|⟨bv,ov,hva,hev⟩
   ·omega
   have hV:=hev i (by omega)
   obtain ⟨pO,aO,nO,cO,dO,mO,lO,v0,v1,v2,hO⟩:=hV.obj
   have hs1v:=hV.s1
   have hkI2:(i:Int)*3=((i*3:Nat):Int):=by omega
   have hkI3:(i:Int)*13=((i*13:Nat):Int):=by omega
   clear hel hev hV
   have hva':P.va=some ⟨bv,ov,none⟩:=hva
   rw [hva'] at q5
   have hvI:(i:Int)<(P.vn:Int):=by omega
   have hbv:bv<w.heap.size:=by
    rcases hP.v with h0|⟨b',o',e',hev'⟩
    ·omega
    ·rw [e'] at hva'
     simp only [Option.some.injEq,Addr.mk.injEq] at hva'
     obtain ⟨rfl,_,_⟩:=hva'
     exact World.block_lt_of_cell? _ _ (hev' i (by omega)).nm
   go_wp2_with fail
   have N:=var3_new wr (.bool pA) (.slice aA nA cA) (.slice dA mA lA) 27
   have hz:=bel_d0 wr (.cells #[.bool pA,.slice aA nA cA,.slice dA mA lA] 27)
   have hsz2:(wr.alloc (.cells #[.bool pA,.slice aA nA cA,.slice dA mA lA] 27)).heap.size=wr.heap.size+1:=by simp
   have hrow:∀ g,(Value.slice o1 (i+1) k1).ownBlock=some g→w.heap.size+2≤g∧g<wr.heap.size:=fun g hg=>L.lt g hg
   replace L:=L.below (by omega) hz
   replace R:=R.below hz
   replace Pb:=Pb.below hz
   replace hA:=hA.below hz
   replace hO:=hO.below hz
   have hTw:=hT.below (bel_tr hbel hz)
   replace hbel:=bel_tr hbel hz
   have q5':=kept_c hz q5
   have v0':=kept_c hz v0
   have v1':=kept_c hz v1
   have v2':=kept_c hz v2
   generalize wr.alloc (.cells #[.bool pA,.slice aA nA cA,.slice dA mA lA] 27)=W2 at *
   have HB:∀ w',Below W2.heap.size W2 w'→(w'.cell? ⟨w.heap.size,5,none⟩=some (.slice (some ⟨bv,ov,none⟩) P.vn P.vc)∧w'.cell? ⟨bv,ov+i*13+1,none⟩=some (.bool pO)∧w'.cell? ⟨bv,ov+i*13+1+1,none⟩=some (.slice aO nO cO)∧w'.cell? ⟨bv,ov+i*13+1+2,none⟩=some (.slice dO mO lO)∧w'.cell? ⟨wr.heap.size,0,none⟩=some (.bool pA)∧w'.cell? ⟨wr.heap.size,1,none⟩=some (.slice aA nA cA)∧w'.cell? ⟨wr.heap.size,2,none⟩=some (.slice dA mA lA)) :=
    fun w' h=>⟨kept_c h q5',kept_c h v0',kept_c h v1',kept_c h v2',kept_c h N.c0,kept_c h N.c1,kept_c h N.c2⟩
   have HG:∀ V w':World,(V.cell? ⟨w.heap.size,5,none⟩=some (.slice (some ⟨bv,ov,none⟩) P.vn P.vc)∧V.cell? ⟨bv,ov+i*13+1,none⟩=some (.bool pO)∧V.cell? ⟨bv,ov+i*13+1+1,none⟩=some (.slice aO nO cO)∧V.cell? ⟨bv,ov+i*13+1+2,none⟩=some (.slice dO mO lO)∧V.cell? ⟨wr.heap.size,0,none⟩=some (.bool pA)∧V.cell? ⟨wr.heap.size,1,none⟩=some (.slice aA nA cA)∧V.cell? ⟨wr.heap.size,2,none⟩=some (.slice dA mA lA))→V.grownBy w' (Value.slice o1 (i+1) k1).ownBlock→(w'.cell? ⟨w.heap.size,5,none⟩=some (.slice (some ⟨bv,ov,none⟩) P.vn P.vc)∧w'.cell? ⟨bv,ov+i*13+1,none⟩=some (.bool pO)∧w'.cell? ⟨bv,ov+i*13+1+1,none⟩=some (.slice aO nO cO)∧w'.cell? ⟨bv,ov+i*13+1+2,none⟩=some (.slice dO mO lO)∧w'.cell? ⟨wr.heap.size,0,none⟩=some (.bool pA)∧w'.cell? ⟨wr.heap.size,1,none⟩=some (.slice aA nA cA)∧w'.cell? ⟨wr.heap.size,2,none⟩=some (.slice dA mA lA)) :=
    fun V w' h hg=>⟨keep_ne hg h.1 (fun e=>by have:=hrow _ e;simp at this;omega),keep_ne hg h.2.1 (fun e=>by have:=hrow _ e;simp at this;omega),keep_ne hg h.2.2.1 (fun e=>by have:=hrow _ e;simp at this;omega),keep_ne hg h.2.2.2.1 (fun e=>by have:=hrow _ e;simp at this;omega),keep_ne hg h.2.2.2.2.1 (fun e=>by have:=hrow _ e;simp at this),keep_ne hg h.2.2.2.2.2.1 (fun e=>by have:=hrow _ e;simp at this),keep_ne hg h.2.2.2.2.2.2 (fun e=>by have:=hrow _ e;simp at this)⟩
   clear q5 v0 v1 v2 c0 c1 c2 hz
   obtain ⟨n0,n1,n2,_,_,_⟩:=id N
   go_region_held3 (fun w'=>w'.cell? ⟨w.heap.size,5,none⟩=some (.slice (some ⟨bv,ov,none⟩) P.vn P.vc)∧w'.cell? ⟨bv,ov+i*13+1,none⟩=some (.bool pO)∧w'.cell? ⟨bv,ov+i*13+1+1,none⟩=some (.slice aO nO cO)∧w'.cell? ⟨bv,ov+i*13+1+2,none⟩=some (.slice dO mO lO)∧w'.cell? ⟨wr.heap.size,0,none⟩=some (.bool pA)∧w'.cell? ⟨wr.heap.size,1,none⟩=some (.slice aA nA cA)∧w'.cell? ⟨wr.heap.size,2,none⟩=some (.slice dA mA lA))
    (first|(with_reducible refine HG _ _ (HB _ ?_) hgrow;repeat' (first|with_reducible exact hc1|with_reducible exact Below.refl _ _|with_reducible refine bel_dr ?_|with_reducible refine bel_a ?_))|(with_reducible refine HB _ ?_;repeat' (first|with_reducible exact hc1|with_reducible exact Below.refl _ _|with_reducible refine bel_dr ?_|with_reducible refine bel_a ?_)))
    ((first
     | (go_at_call 43;go_fit (mulQ _ (hO.below (by first|exact bel_d1 _|exact bel_d2 _ _)) (hA.below (by first|exact bel_d1 _|exact bel_d2 _ _)) (by omega) (by omega) (by omega) (hTw.below (by first|exact bel_d1 _|exact bel_d2 _ _)));rintro e v1 ⟨f2,c2,n2,k2,c3,n3,k3,rfl,G2,hb1⟩;have hc1:Below W2.heap.size W2 v1:=(by first|exact bel_tr (bel_d1 _) hb1|exact bel_tr (bel_d2 _ _) hb1);have hsv1:=Below.size hc1)
     | (refine step_appendM _ (by rfl) _ _ (by rfl) (w.heap.size+2) (.slice o1 (i+1) k1) (i+1) (prt P.k P.V X) S (by rfl) ((L.below (by omega) hc1).below (by omega) (bel_d0 _ _)) v1.heap.size _ (by rfl) f2 c2 n2 k2 c3 n3 k3 _ (cell_new3 (by rfl)) (.inl (((G2.below (bel_d0 _ _)).mono (by simp;omega)).le (by omega))) (by omega) (by simp;omega) (v1.heap.size+1) (by simp) ?_;intro g cap1 w3 LN hgrow hat hlt1)))
   have LN':ML w3 (w.heap.size+2) (.slice (some ⟨g,0,none⟩) (i+1+1) cap1) (i+1+1) (prt P.k P.V X) S:=LN.congr (fun j hj=>by
    by_cases h:j<i+1
    ·simp only [h,if_true]
    ·obtain rfl:j=i+1:=by omega
     simp only [h,if_false]
     rfl)
   have R':=((R.below hc1).alloc (.cells #[.bool f2,.slice c2 n2 k2,.slice c3 n3 k3] 27)).grown hgrow (fun e=>by have:=hrow _ e;omega)
   have Pb':BoxC w3 w.heap.size _:=fun j u hu=>keep_ne hgrow (((Pb.below hc1).below (bel_d0 v1 _)) j u hu) (fun e=>by have:=hrow _ e;simp at this;omega)
   have hg2:=grown_below (B:=w.heap.size+2) hgrow (by simp;omega) (fun g hg=>(hrow g hg).1)
   have hbel':Below w.heap.size w w3:=(bel_a (bel_tr hbel hc1)).trans (hg2.mono (by omega))
   have hs3:=hbel'.size
   have hs4:v1.heap.size+1≤w3.heap.size:=by have:=hg2.size;simpa using this
   clear HB HG LN L R Pb hbel N hgrow hat hlt1
   rw [← hva']
   clear hva hva'
   go_wp2
   go_roundw
   case rel=>first|exact ⟨i+1,by omega,by go_num,LN',R',Pb',hbel',by omega⟩|((repeat apply Exists.intro);refine ⟨?_,rfl⟩;exact ⟨i+1,by omega,by go_num,LN',R',Pb',hbel',by omega⟩)
   case measure=>simp [intOf];omega
  ·have hkI:¬ (i:Int)<(m:Int):=by omega
   obtain rfl:i=m:=by omega
   go_wp2_with fail
   have hq:=L.lq
   have hS1:1≤S:=by have:=hP.s1;omega
   have hzz:∀ j,j<i+1→1≤(fun _:Nat=>S) j∧T+(fun _:Nat=>S) j≤6000000:=fun j _=>⟨hS1,hST⟩
   have hTr:=hT.below hbel
   have hi1:i+1≤1100000:=by omega
   have HH:=sumQ o1 (i+1) k1 (prt P.k P.V X) (fun _=>S) T wr hq hzz hT1 HS.out hi1 hTr
   clear hq hzz hTr
   refine HH.mono ?_
   clear HH
   rintro e w2 ⟨f,c,n1,k2,d,m2,l2,rfl,G,hx2⟩
   have hs2:=Below.size hx2
   replace R:=R.below hx2
   replace hbel:=bel_tr hbel hx2
   clear hx2 L Pb
   obtain ⟨r0,r1,r2,r3,r4,r5⟩:=id R
   obtain ⟨VV,O⟩:=R.set (.bool f) (.slice c n1 k2) (.slice d m2 l2)
   have GF:=G.off O (by omega)
   have hw:=hbel.trans (O.below (by omega))
   clear R O G hbel
   go_wp2
   refine bodyPost_ret (v:=.agg #[.bool f,.slice c n1 k2,.slice d m2 l2]) (by simp [results,Tryz.results14,go_sem,VV.c0,VV.c1,VV.c2]) rfl ?_
   replace GF:=GF.mono (B':=w.heap.size) (by omega)
   exact ⟨_,_,_,_,_,_,_,rfl,GF,hw⟩
def Inf (T:TypeId) (c y:Nat):Prop:=∃ i z,Tryz.prog.info? T=some i∧i.zero=some z∧i.size=c∧i.bytes=y∧z.cells.size=c
theorem inf_of {T:TypeId} {c y:Nat} (h:(Tryz.prog.info? T).map (fun i=>(i.zero.map (fun z=>z.cells.size),i.size,i.bytes))=some (some c,c,y)):Inf T c y:=by
 obtain ⟨i,hi,h⟩:=Option.map_eq_some_iff.1 h
 simp only [Prod.mk.injEq] at h
 obtain ⟨h1,h2,h3⟩:=h
 obtain ⟨z,hz,h4⟩:=Option.map_eq_some_iff.1 h1
 exact ⟨i,z,hi,hz,h2,h3,h4⟩
def SL (w:World) (B:Nat) (T:TypeId) (c:Nat) (v:Value) (n:Nat) (E:Nat→List Value):Prop :=
 ∃ vs:List Value,w.ownsRow B T c v n vs∧∀ i,i<n→∀ j u,(E i)[j]? = some u→j<c∧vs[i*c+j]? = some u
theorem SL.nil (w:World) (B:Nat) (T:TypeId) (c:Nat) (E:Nat→List Value):SL w B T c (.slice none 0 0) 0 E:=⟨[],World.ownsRow_nil _ _ _ _,fun i hi=>by omega⟩
theorem SL.below {w w':World} {B:Nat} {T:TypeId} {c:Nat} {v:Value} {n:Nat} {E:Nat→List Value} (h:SL w B T c v n E) (hb:Below w.heap.size w w'):SL w' B T c v n E:=by
 obtain ⟨vs,h1,h2⟩:=h
 refine ⟨vs,⟨h1.1,?_⟩,h2⟩
 rcases h1.2 with hn|⟨g,cap,cur,e1,e2,hgb,rest⟩
 ·exact .inl hn
 ·exact .inr ⟨g,cap,cur,e1,e2,(hb.block g (Array.getElem?_eq_some_iff.1 hgb).1).trans hgb,rest⟩
theorem SL.form {w:World} {B:Nat} {T:TypeId} {c:Nat} {v:Value} {n:Nat} {E:Nat→List Value} (h:SL w B T c v n E):∃ a cap,v = .slice a n cap∧n≤cap:=by
 obtain ⟨vs,h1,h2⟩:=h
 rcases h1.2 with ⟨rfl,rfl⟩|⟨g,cap,cur,e1,_,_,h3,_⟩
 ·exact ⟨_,_,rfl,Nat.le_refl _⟩
 ·exact ⟨_,_,e1,h3⟩
theorem SL.lt {w:World} {B:Nat} {T:TypeId} {c:Nat} {v:Value} {n:Nat} {E:Nat→List Value} (h:SL w B T c v n E):∀ k,v.ownBlock=some k→B≤k∧k<w.heap.size:=by
 obtain ⟨vs,h1,h2⟩:=h
 exact World.ownsRow.lt h1
theorem SL.mono {w:World} {B B':Nat} {T:TypeId} {c:Nat} {v:Value} {n:Nat} {E:Nat→List Value} (h:SL w B T c v n E) (hB:B'≤B):SL w B' T c v n E:=by
 obtain ⟨vs,h1,h2⟩:=h
 refine ⟨vs,⟨h1.1,?_⟩,h2⟩
 rcases h1.2 with hn|⟨g,cap,cur,e1,e2,rest⟩
 ·exact .inl hn
 ·exact .inr ⟨g,cap,cur,e1,by omega,rest⟩
theorem SL.cell {w:World} {B:Nat} {T:TypeId} {c:Nat} {a:Option Addr} {m n cap:Nat} {E:Nat→List Value} (h:SL w B T c (.slice a m cap) n E):n=0∨∃ g,a=some ⟨g,0,none⟩∧∀ i,i<n→∀ j u,(E i)[j]? = some u→w.cell? ⟨g,i*c+j,none⟩=some u:=by
 obtain ⟨vs,h1,h2⟩:=h
 rcases h1.2 with ⟨e1,e2⟩|⟨g,cap,cur,e1,_,hg,_,_,_,ht⟩
 ·exact .inl e2
 ·simp only [Value.slice.injEq] at e1
  obtain ⟨rfl,_,_⟩:=e1
  exact .inr ⟨g,rfl,fun i hi j u hu=>row_cell hg ht (h2 i hi j u hu).2⟩
theorem SL.congr {w:World} {B:Nat} {T:TypeId} {c:Nat} {v:Value} {n:Nat} {E F:Nat→List Value} (h:SL w B T c v n E) (e:∀ i,i<n→E i=F i):SL w B T c v n F:=by
 obtain ⟨vs,h1,h2⟩:=h
 exact ⟨vs,h1,fun i hi=>by rw [← e i hi];exact h2 i hi⟩
theorem SL.kept {w w':World} {B:Nat} {T:TypeId} {c:Nat} {v:Value} {n:Nat} {E:Nat→List Value} (h:SL w B T c v n E) {row:Option Nat} (hg:w.grownBy w' row) (hne:∀ g,v.ownBlock=some g→row≠some g):SL w' B T c v n E:=by
 obtain ⟨vs,h1,h2⟩:=h
 refine ⟨vs,World.ownsRow.kept h1 hg ?_,h2⟩
 cases e:v.ownBlock with
 | none=>exact .inl rfl
 | some g=>exact .inr fun e2=>hne g e e2.symm
theorem row_neT {w:World} {B B':Nat} {T U:TypeId} {c d:Nat} {v u:Value} {n m:Nat} {xs ys:List Value} (h:w.ownsRow B T c v n xs) (k:w.ownsRow B' U d u m ys) (hT:T≠U):∀ g,v.ownBlock=some g→u.ownBlock≠some g:=by
 intro g h1 h2
 rcases h.2 with ⟨e1,_⟩|⟨g1,c1,cur1,e1,_,f1,_⟩
 ·subst e1;simp [Value.ownBlock] at h1
 ·rcases k.2 with ⟨e2,_⟩|⟨g2,c2,cur2,e2,_,f2,_⟩
  ·subst e2;simp [Value.ownBlock] at h2
  ·subst e1 e2
   simp [Value.ownBlock] at h1 h2
   subst h1 h2
   rw [f1] at f2
   simp only [Option.some.injEq,Obj.cells.injEq] at f2
   exact hT f2.2.1
theorem Got.growS {w w':World} {B:Nat} {v:Value} {x:Int} {S:Nat} (h:Got w B v x S) {B':Nat} {T:TypeId} {c:Nat} {lv:Value} {n:Nat} {E:Nat→List Value} (k:SL w B' T c lv n E) (hT:63≠T) (hg:w.grownBy w' lv.ownBlock):Got w' B v x S:=by
 obtain ⟨xs,h1,h2⟩:=h
 obtain ⟨vs,k1,_⟩:=k
 exact ⟨xs,World.ownsRow.kept h1 hg (row_or (row_neT h1 k1 hT)),h2⟩
theorem GR.growS {w w':World} {B:Nat} {f:Bool} {c:Option Addr} {n k:Nat} {c':Option Addr} {n' k':Nat} {r:Rat} {S:Nat} (h:GR w B f c n k c' n' k' r S) {B':Nat} {T:TypeId} {d:Nat} {lv:Value} {m:Nat} {E:Nat→List Value} (q:SL w B' T d lv m E) (hT:63≠T) (hg:w.grownBy w' lv.ownBlock):GR w' B f c n k c' n' k' r S:=by
 refine ⟨?_,h.2.growS q hT hg,h.3⟩
 obtain ⟨a,n2,c2,h1,h2⟩:=h.1
 exact ⟨a,n2,c2,h1,h2.growS q hT hg⟩
theorem sl_app {c n:Nat} {vs cs:List Value} {E:Nat→List Value} (hl:vs.length=n*c) (hcs:cs.length=c) (h2:∀ i,i<n→∀ j u,(E i)[j]? = some u→j<c∧vs[i*c+j]? = some u) :
  ∀ i,i<n+1→∀ j u,((fun i=>if i<n then E i else cs) i)[j]? = some u→j<c∧(vs++cs)[i*c+j]? = some u:=by
 intro i hi j u hu
 rcases (by omega:i<n∨i=n) with h|rfl
 ·simp only [h,if_true] at hu
  obtain ⟨h3,h4⟩:=h2 i h j u hu
  refine ⟨h3,?_⟩
  have h5:(i+1)*c≤n*c:=Nat.mul_le_mul_right c h
  rw [Nat.add_mul,Nat.one_mul] at h5
  rw [List.getElem?_append_left (by omega)]
  exact h4
 ·simp only [Nat.lt_irrefl,if_false] at hu
  have h3:j<cs.length:=(List.getElem?_eq_some_iff.1 hu).1
  refine ⟨by omega,?_⟩
  rw [List.getElem?_append_right (by omega),hl,Nat.add_sub_cancel_left]
  exact hu
theorem wpList_appendS (w:World) {ops:Array Oper} {rest:List Oper} {o:Oper} {a:Act} {Q:Exit→Act→World→Prop} (hgd:o.guard=none) (s x:Operand) (L T:TypeId) (c y:Nat)
  (ho:o.op = .call { callee:=.builtin .append,args:=#[s,x],argTypes:=#[L,L] }) (hL:Tryz.prog.underlying L=some (.slice T)) (hI:Inf T c y) (hc0:0<c) (hy:y≤1000)
  (B:Nat) (v:Value) (n:Nat) (E:Nat→List Value) (hs:a.eval s=v) (hown:SL w B T c v n E) (h k:Nat) (hx:a.eval x = .slice (some ⟨h,0,none⟩) 1 k)
  (cs:List Value) (hcs:cs.length=c) (h1:∀ u ∈ cs,u.oneCell'=true) (hbox:BoxC w h cs)
  (hlen:n≤1000000000) (hB:B≤w.heap.size) (H:Nat) (hH:w.heap.size=H)
  (hK:∀ g cap w',SL w' B T c (.slice (some ⟨g,0,none⟩) (n+1) cap) (n+1) (fun i=>if i<n then E i else cs)→w.grownBy w' v.ownBlock→(v.ownBlock=some g∨g=H)→g<w'.heap.size→wpList Tryz.prog ops Q rest (a.put o.dst (.slice (some ⟨g,0,none⟩) (n+1) cap)) w') :
  wpList Tryz.prog ops Q (o::rest) a w:=by
 obtain ⟨vs,g1,g2⟩:=hown
 obtain ⟨i0,z,hi,hz,hs3,hb56,hz3⟩:=hI
 have hyn:(n+1)*y≤1000000001*1000:=Nat.mul_le_mul (by omega) hy
 refine wpList_append_lies w hgd s x L ho B T i0 z c y hL hi hz hs3 hb56 hz3 hc0 v n vs hs g1 ⟨h,0,none⟩ 1 k cs hx (by omega) ?_ h1 (by decide) (by unfold maxLen;omega) (by omega) hB H hH ?_
 ·intro j u hj
  have:=hbox j u hj
  by_cases e:j=0
  ·subst e;simpa [Addr.add] using this
  ·simpa [Addr.add,e] using this
 ·intro g cap w' r1 r2 r3 r4
  exact hK g cap w' ⟨_,r1,sl_app g1.1 hcs g2⟩ r2 r3 r4
theorem infTerm:Inf 62 4 64:=inf_of (by kernel_rfl)
theorem infVar:Inf 57 13 208:=inf_of (by kernel_rfl)
theorem infRow:Inf 60 10 168:=inf_of (by kernel_rfl)
def NG (w:World) (lo hi:Nat) (l:List Value) (r:Rat) (S:Nat):Prop:=∃ p a na ca d nd cd,l=[.bool p,.slice a na ca,.slice d nd cd]∧GR w lo p a na ca d nd cd r S∧∀ g,(Value.slice a na ca).ownBlock=some g∨(Value.slice d nd cd).ownBlock=some g→g<hi
theorem GR.blk {w:World} {B:Nat} {f:Bool} {c:Option Addr} {n k:Nat} {c':Option Addr} {n' k':Nat} {r:Rat} {S:Nat} (h:GR w B f c n k c' n' k' r S):∀ g,(Value.slice c n k).ownBlock=some g∨(Value.slice c' n' k').ownBlock=some g→B≤g∧g<w.heap.size:=by
 intro g hg
 rcases hg with hg|hg
 ·exact h.1.parts.2.lt g hg
 ·exact h.2.lt g hg
theorem NG.below {w w':World} {lo hi:Nat} {l:List Value} {r:Rat} {S:Nat} (h:NG w lo hi l r S) (hb:Below w.heap.size w w'):NG w' lo hi l r S:=by
 obtain ⟨p,a,na,ca,d,nd,cd,e,h1,h2⟩:=h
 exact ⟨p,a,na,ca,d,nd,cd,e,h1.below hb,h2⟩
def RA (w:World) (B C:Nat) (v:Value) (n:Nat) (X:Nat→Rat) (S:Nat):Prop :=
 ∃ (E:Nat→List Value) (lo:Nat→Nat),SL w B 27 3 v n E∧(∀ i,i<n→lo i≤lo (i+1)∧NG w (lo i) (lo (i+1)) (E i) (X i) S)∧B≤lo 0∧lo n≤C∧C≤w.heap.size
theorem RA.nil {w:World} {B C:Nat} (h1:B≤C) (h2:C≤w.heap.size) (X:Nat→Rat) (S:Nat):RA w B C (.slice none 0 0) 0 X S:=⟨fun _=>[],fun _=>B,SL.nil _ _ _ _ _,fun i hi=>by omega,Nat.le_refl _,h1,h2⟩
theorem RA.below {w w':World} {B C:Nat} {v:Value} {n:Nat} {X:Nat→Rat} {S:Nat} (h:RA w B C v n X S) (hb:Below w.heap.size w w'):RA w' B C v n X S:=by
 obtain ⟨E,lo,h1,h2,h3,h4,h5⟩:=h
 exact ⟨E,lo,h1.below hb,fun i hi=>⟨(h2 i hi).1,(h2 i hi).2.below hb⟩,h3,h4,Nat.le_trans h5 hb.size⟩
theorem RA.now {w:World} {B C:Nat} {v:Value} {n:Nat} {X:Nat→Rat} {S:Nat} (h:RA w B C v n X S):RA w B w.heap.size v n X S:=by
 obtain ⟨E,lo,h1,h2,h3,h4,h5⟩:=h
 exact ⟨E,lo,h1,h2,h3,Nat.le_trans h4 h5,Nat.le_refl _⟩
theorem RA.mono {w:World} {B B' C:Nat} {v:Value} {n:Nat} {X:Nat→Rat} {S:Nat} (h:RA w B C v n X S) (hB:B'≤B):RA w B' C v n X S:=by
 obtain ⟨E,lo,h1,h2,h3,h4,h5⟩:=h
 exact ⟨E,lo,h1.mono hB,h2,by omega,h4,h5⟩
theorem RA.form {w:World} {B C:Nat} {v:Value} {n:Nat} {X:Nat→Rat} {S:Nat} (h:RA w B C v n X S):∃ a cap,v = .slice a n cap:=by
 obtain ⟨E,lo,h1,_⟩:=h
 obtain ⟨a,cap,e,_⟩:=h1.form
 exact ⟨a,cap,e⟩
theorem RA.lt {w:World} {B C:Nat} {v:Value} {n:Nat} {X:Nat→Rat} {S:Nat} (h:RA w B C v n X S):∀ k,v.ownBlock=some k→B≤k∧k<w.heap.size:=by
 obtain ⟨E,lo,h1,_⟩:=h
 exact h1.lt
theorem RA.le0 {n:Nat} {lo:Nat→Nat} (h:∀ i,i<n→lo i≤lo (i+1)):∀ i,i≤n→∀ j,j≤i→lo j≤lo i:=by
 intro i
 induction i with
 | zero =>
  intro _ j hj
  obtain rfl:j=0:=by omega
  exact Nat.le_refl _
 | succ i ih =>
  intro hi j hj
  rcases (by omega:j≤i∨j=i+1) with h1|rfl
  ·have:=ih (by omega) j h1
   have:=h i (by omega)
   omega
  ·exact Nat.le_refl _
theorem RA.rl {w:World} {B C:Nat} {v:Value} {n:Nat} {X:Nat→Rat} {S:Nat} (h:RA w B C v n X S):RL w B v n X S:=by
 obtain ⟨E,lo,⟨vs,g1,g2⟩,h2,h3,h4,h5⟩:=h
 refine ⟨vs,g1,fun i hi=>?_⟩
 obtain ⟨p,a,na,ca,d,nd,cd,e,k1,_⟩:=(h2 i hi).2
 have hlo:=RA.le0 (fun i hi=>(h2 i hi).1) i (by omega) 0 (Nat.zero_le _)
 have q0:=(g2 i hi 0 (.bool p) (by rw [e];rfl)).2
 have q1:=(g2 i hi 1 (.slice a na ca) (by rw [e];rfl)).2
 have q2:=(g2 i hi 2 (.slice d nd cd) (by rw [e];rfl)).2
 exact ⟨p,a,na,ca,d,nd,cd,q0,q1,q2,k1.mono (by omega)⟩
theorem infRatA:Inf 27 3 56:=inf_of (by kernel_rfl)
theorem wpList_appendRA (w:World) {ops:Array Oper} {rest:List Oper} {o:Oper} {a:Act} {Q:Exit→Act→World→Prop} (hgd:o.guard=none) (s x:Operand)
  (ho:o.op = .call { callee:=.builtin .append,args:=#[s,x],argTypes:=#[43,43] }) (B C:Nat) (v:Value) (n:Nat) (X:Nat→Rat) (S:Nat) (hs:a.eval s=v) (hown:RA w B C v n X S) (h c:Nat) (hx:a.eval x = .slice (some ⟨h,0,none⟩) 1 c)
  (f:Bool) (c1:Option Addr) (n1 k1:Nat) (c2:Option Addr) (n2 k2:Nat) (hc:w.cell? ⟨h,0,none⟩=some (.bool f)∧w.cell? ⟨h,1,none⟩=some (.slice c1 n1 k1)∧w.cell? ⟨h,2,none⟩=some (.slice c2 n2 k2)) (hG:GR w C f c1 n1 k1 c2 n2 k2 (X n) S)
  (hlen:n≤1000000000) (hB:B≤w.heap.size) (H:Nat) (hH:w.heap.size=H)
  (hK:∀ g cap w',RA w' B w'.heap.size (.slice (some ⟨g,0,none⟩) (n+1) cap) (n+1) X S→w.grownBy w' v.ownBlock→(v.ownBlock=some g∨g=H)→g<w'.heap.size→wpList Tryz.prog ops Q rest (a.put o.dst (.slice (some ⟨g,0,none⟩) (n+1) cap)) w') :
  wpList Tryz.prog ops Q (o::rest) a w:=by
 obtain ⟨E,lo,h1,h2,h3,h4,h5⟩:=hown
 refine wpList_appendS w hgd s x 43 27 3 56 ho Tryz.underlying43 infRatA (by decide) (by decide) B v n E hs h1 h c hx [.bool f,.slice c1 n1 k1,.slice c2 n2 k2] rfl (fun u hu=>by simp at hu;rcases hu with rfl|rfl|rfl <;> rfl) ?_ hlen hB H hH ?_
 ·intro i u hu
  match i,hu with
  | 0,hu=>simp at hu;subst hu;exact hc.1
  | 1,hu=>simp at hu;subst hu;exact hc.2.1
  | 2,hu=>simp at hu;subst hu;exact hc.2.2
 ·intro g cap w' r1 r2 r3 r4
  have hsz:=r2.size
  have L0:=RA.le0 (fun i hi=>(h2 i hi).1)
  have hB0:=L0 n (Nat.le_refl _) 0 (Nat.zero_le _)
  have hG':GR w' C f c1 n1 k1 c2 n2 k2 (X n) S:=hG.growS h1 (by decide) r2
  refine hK g cap w' ⟨_,fun i=>if i<n then lo i else if i=n then C else w'.heap.size,r1,fun i hi=>?_,?_,?_,Nat.le_refl _⟩ r2 r3 r4
  ·rcases (by omega:i<n∨i=n) with hi'|rfl
   ·obtain ⟨k0,p,a',na,ca,d,nd,cd,e,k1',k2'⟩:=h2 i hi'
    simp only [hi',if_true]
    have hle:lo (i+1)≤(if i+1<n then lo (i+1) else if i+1=n then C else w'.heap.size):=by
     by_cases h7:i+1<n
     ·rw [if_pos h7];exact Nat.le_refl _
     ·have h8:i+1=n:=by omega
      rw [if_neg h7,if_pos h8,h8];exact h4
    exact ⟨Nat.le_trans k0 hle,p,a',na,ca,d,nd,cd,e,k1'.growS h1 (by decide) r2,fun g hg=>Nat.lt_of_lt_of_le (k2' g hg) hle⟩
   ·have e1:¬ i+1<i:=by omega
    have e2:¬ i+1=i:=by omega
    simp only [Nat.lt_irrefl,if_false,if_true,e1,e2]
    exact ⟨by omega,f,c1,n1,k1,c2,n2,k2,rfl,hG',fun g hg=>(hG'.blk g hg).2⟩
  ·by_cases h7:0<n
   ·simp only [h7,if_true];exact h3
   ·obtain rfl:n=0:=by omega
    simp only [Nat.lt_irrefl,if_false,if_true];omega
  ·have e1:¬ n+1<n:=by omega
   have e2:¬ n+1=n:=by omega
   simp only [e1,e2,if_false];exact Nat.le_refl _
end Go.Proofs.YtdcocflnafcikaaGreatDoor
