import Derived.Test.YtmeimjakdheidaaGreatDoorR3LiAll
import Derived.Test.YtmeimjakdheidaaGreatDoorPqBAll
set_option maxHeartbeats 4000000
namespace Go.Proofs.YtmeimjakdheidaaGreatDoor
open Go.RowKit
def Ov (D A:Int) (r:Rat):Prop:=∃ m:Int,r*(D:Rat)=(m:Rat)∧(m.natAbs:Int)≤A*D
theorem Ov.lift {D A E:Int} {r:Rat} (h:Ov D A r) (hE:0≤E):Ov (D*E) A r:=by
 obtain ⟨m,h1,h2⟩:=h
 refine ⟨m*E,by rw [Rat.intCast_mul,← Rat.mul_assoc,h1,Rat.intCast_mul],?_⟩
 rw [Int.natAbs_mul,Int.natCast_mul,Int.natAbs_of_nonneg hE,← Int.mul_assoc]
 exact Int.mul_le_mul_of_nonneg_right h2 hE
theorem Ov.lift' {D A E:Int} {r:Rat} (h:Ov D A r) (hE:0≤E):Ov (E*D) A r:=by rw [Int.mul_comm];exact h.lift hE
theorem Ov.add {D A B:Int} {r s:Rat} (h:Ov D A r) (k:Ov D B s):Ov D (A+B) (r+s):=by
 obtain ⟨m,h1,h2⟩:=h
 obtain ⟨n,k1,k2⟩:=k
 refine ⟨m+n,by rw [Rat.add_mul,h1,k1,Rat.intCast_add],?_⟩
 rw [Int.add_mul]
 omega
theorem Ov.mul {D E A B:Int} {r s:Rat} (h:Ov D A r) (k:Ov E B s):Ov (D*E) (A*B) (r*s):=by
 obtain ⟨m,h1,h2⟩:=h
 obtain ⟨n,k1,k2⟩:=k
 refine ⟨m*n,?_,?_⟩
 ·rw [Rat.intCast_mul,Rat.intCast_mul,← h1,← k1,Rat.mul_assoc,Rat.mul_assoc]
  congr 1
  rw [← Rat.mul_assoc,Rat.mul_comm s,Rat.mul_assoc]
 ·rw [Int.natAbs_mul,Int.natCast_mul]
  have e:A*B*(D*E)=(A*D)*(B*E):=by
   rw [Int.mul_assoc,Int.mul_assoc]
   congr 1
   rw [← Int.mul_assoc,Int.mul_comm B,Int.mul_assoc]
  rw [e]
  exact Int.mul_le_mul h2 k2 (by omega) (by omega)
theorem Ov.zero {D:Int}:Ov D 0 0:=⟨0,by rw [Rat.zero_mul];rfl,by simp⟩
theorem Ov.self {r:Rat} {T:Nat} (h:SzR r T):Ov (r.den:Int) (pw T) r:=by
 refine ⟨r.num,?_,?_⟩
 ·have hd:(((r.den:Int)):Rat)≠0:=by
   intro e
   have e2:(r.den:Int)=0:=by exact_mod_cast e
   have:=r.den_pos
   omega
  have e1:r=(r.num:Rat)/((r.den:Int):Rat):=by rw [← Rat.divInt_eq_div,Rat.num_divInt_den]
  have e2:r*((r.den:Int):Rat)=(r.num:Rat)/((r.den:Int):Rat)*((r.den:Int):Rat):=congrArg (· * ((r.den:Int):Rat)) e1
  rw [e2,Rat.div_mul_cancel hd]
 ·have h1:=h.1
  have hd:(1:Int)≤(r.den:Int):=by have:=r.den_pos;omega
  have h2:pw T*1≤pw T*(r.den:Int):=Int.mul_le_mul_of_nonneg_left hd (Int.le_of_lt (bG T))
  omega
theorem Ov.sz {D A:Int} {r:Rat} {a d:Nat} (h:Ov D A r) (hD:0<D) (hd:D<pw d) (hA:A<pw a) (ha:1≤a+d):SzR r (a+d):=by
 obtain ⟨m,h1,h2⟩:=h
 have e:r=Rat.divInt m D:=by
  have hD0:(D:Rat)≠0:=by
   intro e
   have:D=0:=by exact_mod_cast e
   omega
  rw [Rat.divInt_eq_div,← h1,Rat.div_def,Rat.mul_assoc,Rat.mul_inv_cancel _ hD0,Rat.mul_one]
 rw [e]
 have h3:A*D<pw (a+d):=by
  rcases Int.lt_or_le A 0 with hn|hp
  ·have h5:A*D≤0:=Int.mul_nonpos_of_nonpos_of_nonneg (Int.le_of_lt hn) (Int.le_of_lt hD)
   have:=bG (a+d)
   omega
  ·have e1:(A.natAbs:Int)=A:=Int.natAbs_of_nonneg hp
   have e2:(D.natAbs:Int)=D:=Int.natAbs_of_nonneg (Int.le_of_lt hD)
   have h6:=mul_lt (x:=A) (y:=D) (S:=a) (R:=d) (by omega) (by omega)
   have e3:((A*D).natAbs:Int)=A*D:=Int.natAbs_of_nonneg (Int.mul_nonneg hp (Int.le_of_lt hD))
   omega
 refine jP (by omega) ?_ ha
 have:=aT (show d≤a+d by omega)
 omega
def jG (X:Nat→Rat):Nat→Int
 | 0=>1
 | n+1=>jG X n*((X n).den:Int)
theorem mQ (X:Nat→Rat):∀ n,0<jG X n
 | 0=>by show (0:Int)<1;decide
 | n+1=>Int.mul_pos (mQ X n) (by have:=(X n).den_pos;omega)
theorem yS {X:Nat→Rat} {Z:Nat→Nat}:∀ n,(∀ i,i<n→SzR (X i) (Z i))→jG X n<pw (tot Z n)
 | 0,_=>by show (1:Int)<pw 1;decide
 | n+1,h=>by
  have h1:=yS n (fun i hi=>h i (by omega))
  have h2:=(h n (by omega)).2
  have p1:=mQ X n
  have p2:=(X n).den_pos
  have e1:((jG X n).natAbs:Int)=jG X n:=Int.natAbs_of_nonneg (Int.le_of_lt p1)
  have h3:=mul_lt (x:=jG X n) (y:=((X n).den:Int)) (S:=tot Z n) (R:=Z n) (by omega) (by simpa using h2)
  have e3:((jG X n*((X n).den:Int)).natAbs:Int)=jG X n*((X n).den:Int):=Int.natAbs_of_nonneg (Int.mul_nonneg (Int.le_of_lt p1) (by omega))
  have:=aT (show tot Z n+Z n≤tot Z (n+1) by show _≤tot Z n+Z n+1;omega)
  show jG X n*((X n).den:Int)<_
  omega
theorem yT {X:Nat→Rat} {Z:Nat→Nat} {T:Nat}:∀ n,(∀ i,i<n→SzR (X i) (Z i)∧Z i≤T)→∀ i,i<n→Ov (jG X n) (pw T) (X i)
 | 0,_,i,hi=>by omega
 | n+1,h,i,hi=>by
  show Ov (jG X n*((X n).den:Int)) _ _
  rcases (by omega:i<n∨i=n) with h1|rfl
  ·exact (yT n (fun i hi=>h i (by omega)) i h1).lift (by omega)
  ·exact (Ov.self ((h i (by omega)).1.le (h i (by omega)).2)).lift' (Int.le_of_lt (mQ X i))
theorem rsum_ov {X:Nat→Rat} {D A:Int} {n:Nat} (h:∀ i,i<n→Ov D A (X i)):∀ k,k≤n→Ov D (k*A) (bJ X k)
 | 0,_=>by simp only [Int.natCast_zero,Int.zero_mul];exact Ov.zero
 | k+1,hk=>by
  have h1:=(rsum_ov h k (by omega)).add (h k (by omega))
  rw [show (((k+1:Nat):Int)*A)=(k:Int)*A+A by rw [Int.natCast_add,Int.add_mul,Int.natCast_one,Int.one_mul]]
  exact h1
theorem knownQ (P:Prob) (xa:Option Addr) (n xc m:Nat) (w:World) (hn:n≤xc) (hm:m=min n P.vn) :
 Calls Tryz.prog 50 #[P.val,.slice xa n xc] w fun e w'=>e = .returned (.slice xa m xc)∧Below w.heap.size w w':=by
 unfold Prob.val
 have x0:=aI w (.cells #[.bool P.mx,.string P.nm,.bool P.p,.slice P.a P.na P.ca,.slice P.d P.nd P.cd,.slice P.va P.vn P.vc,.slice P.ra P.rn P.rc] 31)
 go_enter Tryz.func50,Tryz.ntmps50
 go_wp2
 go_ret
 exact ⟨by rw [hm,show (min (n:Int) (P.vn:Int)).toNat=min n P.vn by omega];rfl,x0⟩
def prt (k:Rat) (V:Nat→PV) (X:Nat→Rat):Nat→Rat
 | 0=>k
 | i+1=>(V i).obj*X i
set_option maxRecDepth 100000 in
theorem valueQ (P:Prob) {xa:Option Addr} {n xc:Nat} {X:Nat→Rat} {Z:Nat→Nat} {S T m:Nat} (w:World) (hP:PQ w P) (hx:LQ w xa n X Z) (hn:n≤xc) (hm:m=min n P.vn) (hK:P.S≤S) (hz:∀ j,j<m→1≤Z j∧P.ZV j+Z j≤S)
 (hST:T+S≤6000000) (hT1:1≤T) (hsz:∀ j,j≤m+1→SzR (bJ (prt P.k P.V X) j) T) (hm1:m≤1048576) (hT:TB w) :
 Calls Tryz.prog 49 #[P.val,.slice xa n xc] w fun e w'=>∃ f c n1 k1 c' n' k',e = .returned (.agg #[.bool f,.slice c n1 k1,.slice c' n' k'])∧GR w' w.heap.size f c n1 k1 c' n' k' (bJ (prt P.k P.V X) (m+1)) T∧Below w.heap.size w w':=by
 have HS:Hid (∀ j,j≤m+1→SzR (bJ (prt P.k P.V X) j) T):=hsz
 clear hsz
 unfold Prob.val
 go_enter Tryz.func49,Tryz.ntmps49
 go_wp2_with fail
 obtain ⟨P0,P1,_,hb,hs⟩:=boxc3 w #[.bool P.mx,.string P.nm,.bool P.p,.slice P.a P.na P.ca,.slice P.d P.nd P.cd,.slice P.va P.vn P.vc,.slice P.ra P.rn P.rc] 31 #[.bool false,.slice none 0 0,.slice none 0 0] 27 #[.bool P.p,.slice P.a P.na P.ca,.slice P.d P.nd P.cd] 27
 have R0:Var3 (((w.alloc (.cells #[.bool P.mx,.string P.nm,.bool P.p,.slice P.a P.na P.ca,.slice P.d P.nd P.cd,.slice P.va P.vn P.vc,.slice P.ra P.rn P.rc] 31)).alloc (.cells #[.bool false,.slice none 0 0,.slice none 0 0] 27)).alloc (.cells #[.bool P.p,.slice P.a P.na P.ca,.slice P.d P.nd P.cd] 27)) (w.heap.size+1) (.bool false) (.slice none 0 0) (.slice none 0 0):=by
  have h:=(aU (w.alloc (.cells #[.bool P.mx,.string P.nm,.bool P.p,.slice P.a P.na P.ca,.slice P.d P.nd P.cd,.slice P.va P.vn P.vc,.slice P.ra P.rn P.rc] 31)) (.bool false) (.slice none 0 0) (.slice none 0 0) 27).alloc (.cells #[.bool P.p,.slice P.a P.na P.ca,.slice P.d P.nd P.cd] 27)
  simpa using h
 have L0:ML (((w.alloc (.cells #[.bool P.mx,.string P.nm,.bool P.p,.slice P.a P.na P.ca,.slice P.d P.nd P.cd,.slice P.va P.vn P.vc,.slice P.ra P.rn P.rc] 31)).alloc (.cells #[.bool false,.slice none 0 0,.slice none 0 0] 27)).alloc (.cells #[.bool P.p,.slice P.a P.na P.ca,.slice P.d P.nd P.cd] 27)) (w.heap.size+2) (.slice (some ⟨w.heap.size+2,0,none⟩) 1 1) 1 (prt P.k P.V X) S :=
  ML.one (EL.of_tr (((hP.k.up hK).below (aI _ _)).below (aI _ _)) (by simp)) (by simp) _ (by simp)
 generalize ((w.alloc (.cells #[.bool P.mx,.string P.nm,.bool P.p,.slice P.a P.na P.ca,.slice P.d P.nd P.cd,.slice P.va P.vn P.vc,.slice P.ra P.rn P.rc] 31)).alloc (.cells #[.bool false,.slice none 0 0,.slice none 0 0] 27)).alloc (.cells #[.bool P.p,.slice P.a P.na P.ca,.slice P.d P.nd P.cd] 27)=W at *
 refine (knownQ P xa n xc m W hn hm).mono ?_
 have hmn:m≤n:=by omega
 have hmv:m≤P.vn:=by omega
 clear hm
 rintro e w1 ⟨rfl,h1⟩
 have hs1:=Below.size h1
 replace P0:=P0.below h1
 replace R0:=R0.below h1
 replace L0:=L0.below (by omega) h1
 replace hb:=aF hb h1
 clear h1 P1
 go_wp2
 go_loopw [5,15] (fun s5 s15 wr=>∃ (i:Nat),i≤m∧s15 = .int .i64 i∧ML wr (w.heap.size+2) s5 (i+1) (prt P.k P.V X) S∧Var3 wr (w.heap.size+1) (.bool false) (.slice none 0 0) (.slice none 0 0)∧BoxC wr w.heap.size #[.bool P.mx,.string P.nm,.bool P.p,.slice P.a P.na P.ca,.slice P.d P.nd P.cd,.slice P.va P.vn P.vc,.slice P.ra P.rn P.rc].toList∧Below w.heap.size w wr∧w.heap.size+3≤wr.heap.size) (fun _ s15 _=>m-(intOf s15).toNat)
 case atStart=>exact ⟨0,Nat.zero_le _,rfl,L0,R0,P0,hb,by omega⟩
 case round =>
  obtain ⟨i,hi,rfl,L,R,Pb,hbel,hsr⟩:=hrel
  clear L0 R0 P0 hb
  obtain ⟨o1,k1,rfl⟩:=L.form
  by_cases hlt:i<m
  ·have hkI:(i:Int)<(m:Int):=by omega
   obtain ⟨hz1,hz2⟩:=hz i hlt
   obtain ⟨q5,_⟩:wr.cell? ⟨w.heap.size,5,none⟩=some (.slice P.va P.vn P.vc)∧True:=⟨Pb 5 _ rfl,trivial⟩
   rcases (hx.below hbel) with h0|⟨bx,ox,rfl,hel⟩
   ·omega
   obtain ⟨pA,aA,nA,cA,dA,mA,lA,c0,c1,c2,hA⟩:=hel i (by omega)
   rcases (hP.v.below hbel) with h0|⟨bv,ov,hva,hev⟩
   ·omega
   have hV:=hev i (by omega)
   obtain ⟨pO,aO,nO,cO,dO,mO,lO,v0,v1,v2,hO⟩:=hV.obj
   have hs1v:=hV.s1
   have hkI2:(i:Int)*3=((i*3:Nat):Int):=by omega
   have hkI3:(i:Int)*13=((i*13:Nat):Int):=by omega
   clear hel hev hV
   have hva':P.va=some ⟨bv,ov,none⟩:=hva
   rw [hva'] at q5
   have hvI:(i:Int)<(P.vn:Int):=by omega
   have hbv:bv<w.heap.size:=by
    rcases hP.v with h0|⟨b',o',e',hev'⟩
    ·omega
    ·rw [e'] at hva'
     simp only [Option.some.injEq,Addr.mk.injEq] at hva'
     obtain ⟨rfl,_,_⟩:=hva'
     exact World.block_lt_of_cell? _ _ (hev' i (by omega)).nm
   go_wp2_with fail
   have N:=aU wr (.bool pA) (.slice aA nA cA) (.slice dA mA lA) 27
   have hz:=aI wr (.cells #[.bool pA,.slice aA nA cA,.slice dA mA lA] 27)
   have hsz2:(wr.alloc (.cells #[.bool pA,.slice aA nA cA,.slice dA mA lA] 27)).heap.size=wr.heap.size+1:=by simp
   have hrow:∀ g,(Value.slice o1 (i+1) k1).ownBlock=some g→w.heap.size+2≤g∧g<wr.heap.size:=fun g hg=>L.lt g hg
   replace L:=L.below (by omega) hz
   replace R:=R.below hz
   replace Pb:=Pb.below hz
   replace hA:=hA.below hz
   replace hO:=hO.below hz
   have hTw:=hT.below (aF hbel hz)
   replace hbel:=aF hbel hz
   have q5':=aG hz q5
   have v0':=aG hz v0
   have v1':=aG hz v1
   have v2':=aG hz v2
   generalize wr.alloc (.cells #[.bool pA,.slice aA nA cA,.slice dA mA lA] 27)=W2 at *
   have HB:∀ w',Below W2.heap.size W2 w'→(w'.cell? ⟨w.heap.size,5,none⟩=some (.slice (some ⟨bv,ov,none⟩) P.vn P.vc)∧w'.cell? ⟨bv,ov+i*13+1,none⟩=some (.bool pO)∧w'.cell? ⟨bv,ov+i*13+1+1,none⟩=some (.slice aO nO cO)∧w'.cell? ⟨bv,ov+i*13+1+2,none⟩=some (.slice dO mO lO)∧w'.cell? ⟨wr.heap.size,0,none⟩=some (.bool pA)∧w'.cell? ⟨wr.heap.size,1,none⟩=some (.slice aA nA cA)∧w'.cell? ⟨wr.heap.size,2,none⟩=some (.slice dA mA lA)) :=
    fun w' h=>⟨aG h q5',aG h v0',aG h v1',aG h v2',aG h N.c0,aG h N.c1,aG h N.c2⟩
   have HG:∀ V w':World,(V.cell? ⟨w.heap.size,5,none⟩=some (.slice (some ⟨bv,ov,none⟩) P.vn P.vc)∧V.cell? ⟨bv,ov+i*13+1,none⟩=some (.bool pO)∧V.cell? ⟨bv,ov+i*13+1+1,none⟩=some (.slice aO nO cO)∧V.cell? ⟨bv,ov+i*13+1+2,none⟩=some (.slice dO mO lO)∧V.cell? ⟨wr.heap.size,0,none⟩=some (.bool pA)∧V.cell? ⟨wr.heap.size,1,none⟩=some (.slice aA nA cA)∧V.cell? ⟨wr.heap.size,2,none⟩=some (.slice dA mA lA))→V.grownBy w' (Value.slice o1 (i+1) k1).ownBlock→(w'.cell? ⟨w.heap.size,5,none⟩=some (.slice (some ⟨bv,ov,none⟩) P.vn P.vc)∧w'.cell? ⟨bv,ov+i*13+1,none⟩=some (.bool pO)∧w'.cell? ⟨bv,ov+i*13+1+1,none⟩=some (.slice aO nO cO)∧w'.cell? ⟨bv,ov+i*13+1+2,none⟩=some (.slice dO mO lO)∧w'.cell? ⟨wr.heap.size,0,none⟩=some (.bool pA)∧w'.cell? ⟨wr.heap.size,1,none⟩=some (.slice aA nA cA)∧w'.cell? ⟨wr.heap.size,2,none⟩=some (.slice dA mA lA)) :=
    fun V w' h hg=>⟨bK hg h.1 (fun e=>by have:=hrow _ e;simp at this;omega),bK hg h.2.1 (fun e=>by have:=hrow _ e;simp at this;omega),bK hg h.2.2.1 (fun e=>by have:=hrow _ e;simp at this;omega),bK hg h.2.2.2.1 (fun e=>by have:=hrow _ e;simp at this;omega),bK hg h.2.2.2.2.1 (fun e=>by have:=hrow _ e;simp at this),bK hg h.2.2.2.2.2.1 (fun e=>by have:=hrow _ e;simp at this),bK hg h.2.2.2.2.2.2 (fun e=>by have:=hrow _ e;simp at this)⟩
   clear q5 v0 v1 v2 c0 c1 c2 hz
   obtain ⟨n0,n1,n2,_,_,_⟩:=id N
   go_region_held3 (fun w'=>w'.cell? ⟨w.heap.size,5,none⟩=some (.slice (some ⟨bv,ov,none⟩) P.vn P.vc)∧w'.cell? ⟨bv,ov+i*13+1,none⟩=some (.bool pO)∧w'.cell? ⟨bv,ov+i*13+1+1,none⟩=some (.slice aO nO cO)∧w'.cell? ⟨bv,ov+i*13+1+2,none⟩=some (.slice dO mO lO)∧w'.cell? ⟨wr.heap.size,0,none⟩=some (.bool pA)∧w'.cell? ⟨wr.heap.size,1,none⟩=some (.slice aA nA cA)∧w'.cell? ⟨wr.heap.size,2,none⟩=some (.slice dA mA lA))
    (first|(with_reducible refine HG _ _ (HB _ ?_) hgrow;repeat' (first|with_reducible exact hc1|with_reducible exact Below.refl _ _|with_reducible refine fZ ?_|with_reducible refine fB ?_))|(with_reducible refine HB _ ?_;repeat' (first|with_reducible exact hc1|with_reducible exact Below.refl _ _|with_reducible refine fZ ?_|with_reducible refine fB ?_)))
    ((first
     | (go_at_call 29;go_fit (mulQ _ (hO.below (by first|exact aK _|exact dB _ _)) (hA.below (by first|exact aK _|exact dB _ _)) (by omega) (by omega) (by omega) (hTw.below (by first|exact aK _|exact dB _ _)));rintro e v1 ⟨f2,c2,n2,k2,c3,n3,k3,rfl,G2,hb1⟩;have hc1:Below W2.heap.size W2 v1:=(by first|exact aF (aK _) hb1|exact aF (dB _ _) hb1);have hsv1:=Below.size hc1)
     | (refine kG _ (by rfl) _ _ (by rfl) (w.heap.size+2) (.slice o1 (i+1) k1) (i+1) (prt P.k P.V X) S (by rfl) ((L.below (by omega) hc1).below (by omega) (aI _ _)) v1.heap.size _ (by rfl) f2 c2 n2 k2 c3 n3 k3 _ (iW (by rfl)) (.inl (((G2.below (aI _ _)).mono (by simp;omega)).le (by omega))) (by omega) (by simp;omega) (v1.heap.size+1) (by simp) ?_;intro g cap1 w3 LN hgrow hat hlt1)))
   have LN':ML w3 (w.heap.size+2) (.slice (some ⟨g,0,none⟩) (i+1+1) cap1) (i+1+1) (prt P.k P.V X) S:=LN.congr (fun j hj=>by
    by_cases h:j<i+1
    ·simp only [h,if_true]
    ·obtain rfl:j=i+1:=by omega
     simp only [h,if_false]
     rfl)
   have R':=((R.below hc1).alloc (.cells #[.bool f2,.slice c2 n2 k2,.slice c3 n3 k3] 27)).grown hgrow (fun e=>by have:=hrow _ e;omega)
   have Pb':BoxC w3 w.heap.size _:=fun j u hu=>bK hgrow (((Pb.below hc1).below (aI v1 _)) j u hu) (fun e=>by have:=hrow _ e;simp at this;omega)
   have hg2:=grown_below (B:=w.heap.size+2) hgrow (by simp;omega) (fun g hg=>(hrow g hg).1)
   have hbel':Below w.heap.size w w3:=(fB (aF hbel hc1)).trans (hg2.mono (by omega))
   have hs3:=hbel'.size
   have hs4:v1.heap.size+1≤w3.heap.size:=by have:=hg2.size;simpa using this
   clear HB HG LN L R Pb hbel N hgrow hat hlt1
   rw [← hva']
   clear hva hva'
   go_wp2
   go_roundw
   case rel=>first|exact ⟨i+1,by omega,by go_num,LN',R',Pb',hbel',by omega⟩|((repeat apply Exists.intro);refine ⟨?_,rfl⟩;exact ⟨i+1,by omega,by go_num,LN',R',Pb',hbel',by omega⟩)
   case measure=>simp [intOf];omega
  ·have hkI:¬ (i:Int)<(m:Int):=by omega
   obtain rfl:i=m:=by omega
   go_wp2_with fail
   have hq:=L.lq
   have hS1:1≤S:=by have:=hP.s1;omega
   have hzz:∀ j,j<i+1→1≤(fun _:Nat=>S) j∧T+(fun _:Nat=>S) j≤6000000:=fun j _=>⟨hS1,hST⟩
   have hTr:=hT.below hbel
   have hi1:i+1≤1100000:=by omega
   have HH:=sumQ o1 (i+1) k1 (prt P.k P.V X) (fun _=>S) T wr hq hzz hT1 HS.out hi1 hTr
   clear hq hzz hTr
   refine HH.mono ?_
   clear HH
   rintro e w2 ⟨f,c,n1,k2,d,m2,l2,rfl,G,hx2⟩
   have hs2:=Below.size hx2
   replace R:=R.below hx2
   replace hbel:=aF hbel hx2
   clear hx2 L Pb
   obtain ⟨r0,r1,r2,r3,r4,r5⟩:=id R
   obtain ⟨VV,O⟩:=R.set (.bool f) (.slice c n1 k2) (.slice d m2 l2)
   have GF:=G.off O (by omega)
   have hw:=hbel.trans (O.below (by omega))
   clear R O G hbel
   go_wp2
   refine bodyPost_ret (v:=.agg #[.bool f,.slice c n1 k2,.slice d m2 l2]) (by simp [results,Tryz.results49,go_sem,VV.c0,VV.c1,VV.c2]) rfl ?_
   replace GF:=GF.mono (B':=w.heap.size) (by omega)
   exact ⟨_,_,_,_,_,_,_,rfl,GF,hw⟩
def NG (w:World) (lo hi:Nat) (l:List Value) (r:Rat) (S:Nat):Prop:=∃ p a na ca d nd cd,l=[.bool p,.slice a na ca,.slice d nd cd]∧GR w lo p a na ca d nd cd r S∧∀ g,(Value.slice a na ca).ownBlock=some g∨(Value.slice d nd cd).ownBlock=some g→g<hi
theorem GR.blk {w:World} {B:Nat} {f:Bool} {c:Option Addr} {n k:Nat} {c':Option Addr} {n' k':Nat} {r:Rat} {S:Nat} (h:GR w B f c n k c' n' k' r S):∀ g,(Value.slice c n k).ownBlock=some g∨(Value.slice c' n' k').ownBlock=some g→B≤g∧g<w.heap.size:=by
 intro g hg
 rcases hg with hg|hg
 ·exact h.1.parts.2.lt g hg
 ·exact h.2.lt g hg
theorem NG.below {w w':World} {lo hi:Nat} {l:List Value} {r:Rat} {S:Nat} (h:NG w lo hi l r S) (hb:Below w.heap.size w w'):NG w' lo hi l r S:=by
 obtain ⟨p,a,na,ca,d,nd,cd,e,h1,h2⟩:=h
 exact ⟨p,a,na,ca,d,nd,cd,e,h1.below hb,h2⟩
theorem NG.up {w:World} {lo hi hi':Nat} {l:List Value} {r:Rat} {S:Nat} (h:NG w lo hi l r S) (hh:hi≤hi'):NG w lo hi' l r S:=by
 obtain ⟨p,a,na,ca,d,nd,cd,e,h1,h2⟩:=h
 exact ⟨p,a,na,ca,d,nd,cd,e,h1,fun g hg=>Nat.lt_of_lt_of_le (h2 g hg) hh⟩
def RA (w:World) (B C:Nat) (v:Value) (n:Nat) (X:Nat→Rat) (S:Nat):Prop :=
 ∃ (E:Nat→List Value) (lo:Nat→Nat),SL w B 27 3 v n E∧(∀ i,i<n→lo i≤lo (i+1)∧NG w (lo i) (lo (i+1)) (E i) (X i) S)∧B≤lo 0∧lo n≤C∧C≤w.heap.size
theorem RA.nil {w:World} {B C:Nat} (h1:B≤C) (h2:C≤w.heap.size) (X:Nat→Rat) (S:Nat):RA w B C (.slice none 0 0) 0 X S:=⟨fun _=>[],fun _=>B,SL.nil _ _ _ _ _,fun i hi=>by omega,Nat.le_refl _,h1,h2⟩
theorem RA.below {w w':World} {B C:Nat} {v:Value} {n:Nat} {X:Nat→Rat} {S:Nat} (h:RA w B C v n X S) (hb:Below w.heap.size w w'):RA w' B C v n X S:=by
 obtain ⟨E,lo,h1,h2,h3,h4,h5⟩:=h
 exact ⟨E,lo,h1.below hb,fun i hi=>⟨(h2 i hi).1,(h2 i hi).2.below hb⟩,h3,h4,Nat.le_trans h5 hb.size⟩
theorem RA.now {w:World} {B C:Nat} {v:Value} {n:Nat} {X:Nat→Rat} {S:Nat} (h:RA w B C v n X S):RA w B w.heap.size v n X S:=by
 obtain ⟨E,lo,h1,h2,h3,h4,h5⟩:=h
 exact ⟨E,lo,h1,h2,h3,Nat.le_trans h4 h5,Nat.le_refl _⟩
theorem RA.mono {w:World} {B B' C:Nat} {v:Value} {n:Nat} {X:Nat→Rat} {S:Nat} (h:RA w B C v n X S) (hB:B'≤B):RA w B' C v n X S:=by
 obtain ⟨E,lo,h1,h2,h3,h4,h5⟩:=h
 exact ⟨E,lo,h1.mono hB,h2,by omega,h4,h5⟩
theorem RA.form {w:World} {B C:Nat} {v:Value} {n:Nat} {X:Nat→Rat} {S:Nat} (h:RA w B C v n X S):∃ a cap,v = .slice a n cap:=by
 obtain ⟨E,lo,h1,_⟩:=h
 obtain ⟨a,cap,e,_⟩:=h1.form
 exact ⟨a,cap,e⟩
theorem RA.lt {w:World} {B C:Nat} {v:Value} {n:Nat} {X:Nat→Rat} {S:Nat} (h:RA w B C v n X S):∀ k,v.ownBlock=some k→B≤k∧k<w.heap.size:=by
 obtain ⟨E,lo,h1,_⟩:=h
 exact h1.lt
theorem RA.le0 {n:Nat} {lo:Nat→Nat} (h:∀ i,i<n→lo i≤lo (i+1)):∀ i,i≤n→∀ j,j≤i→lo j≤lo i:=by
 intro i
 induction i with
 | zero =>
  intro _ j hj
  obtain rfl:j=0:=by omega
  exact Nat.le_refl _
 | succ i ih =>
  intro hi j hj
  rcases (by omega:j≤i∨j=i+1) with h1|rfl
  ·have:=ih (by omega) j h1
   have:=h i (by omega)
   omega
  ·exact Nat.le_refl _
theorem RA.rl {w:World} {B C:Nat} {v:Value} {n:Nat} {X:Nat→Rat} {S:Nat} (h:RA w B C v n X S):RL w B v n X S:=by
 obtain ⟨E,lo,⟨vs,g1,g2⟩,h2,h3,h4,h5⟩:=h
 refine ⟨vs,g1,fun i hi=>?_⟩
 obtain ⟨p,a,na,ca,d,nd,cd,e,k1,_⟩:=(h2 i hi).2
 have hlo:=RA.le0 (fun i hi=>(h2 i hi).1) i (by omega) 0 (Nat.zero_le _)
 have q0:=(g2 i hi 0 (.bool p) (by rw [e];rfl)).2
 have q1:=(g2 i hi 1 (.slice a na ca) (by rw [e];rfl)).2
 have q2:=(g2 i hi 2 (.slice d nd cd) (by rw [e];rfl)).2
 exact ⟨p,a,na,ca,d,nd,cd,q0,q1,q2,k1.mono (by omega)⟩
theorem infRatA:Inf 27 3 56:=kH (by kernel_rfl)
theorem qQ (w:World) {ops:Array Oper} {rest:List Oper} {o:Oper} {a:Act} {Q:Exit→Act→World→Prop} (hgd:o.guard=none) (s x:Operand)
 (ho:o.op = .call { callee:=.builtin .append,args:=#[s,x],argTypes:=#[32,32] }) (B C:Nat) (v:Value) (n:Nat) (X:Nat→Rat) (S:Nat) (hs:a.eval s=v) (hown:RA w B C v n X S) (h c:Nat) (hx:a.eval x = .slice (some ⟨h,0,none⟩) 1 c)
 (f:Bool) (c1:Option Addr) (n1 k1:Nat) (c2:Option Addr) (n2 k2:Nat) (hc:w.cell? ⟨h,0,none⟩=some (.bool f)∧w.cell? ⟨h,1,none⟩=some (.slice c1 n1 k1)∧w.cell? ⟨h,2,none⟩=some (.slice c2 n2 k2)) (hG:GR w C f c1 n1 k1 c2 n2 k2 (X n) S)
 (hlen:n≤1000000000) (hB:B≤w.heap.size) (H:Nat) (hH:w.heap.size=H)
 (hK:∀ g cap w',RA w' B w'.heap.size (.slice (some ⟨g,0,none⟩) (n+1) cap) (n+1) X S→w.grownBy w' v.ownBlock→(v.ownBlock=some g∨g=H)→g<w'.heap.size→wpList Tryz.prog ops Q rest (a.put o.dst (.slice (some ⟨g,0,none⟩) (n+1) cap)) w') :
 wpList Tryz.prog ops Q (o::rest) a w:=by
 obtain ⟨E,lo,h1,h2,h3,h4,h5⟩:=hown
 refine lJ w hgd s x 32 27 3 56 ho Tryz.underlying32 infRatA (by decide) (by decide) B v n E hs h1 h c hx [.bool f,.slice c1 n1 k1,.slice c2 n2 k2] rfl (fun u hu=>by simp at hu;rcases hu with rfl|rfl|rfl <;> rfl) ?_ hlen hB H hH ?_
 ·intro i u hu
  match i,hu with
  | 0,hu=>simp at hu;subst hu;exact hc.1
  | 1,hu=>simp at hu;subst hu;exact hc.2.1
  | 2,hu=>simp at hu;subst hu;exact hc.2.2
 ·intro g cap w' r1 r2 r3 r4
  have hsz:=r2.size
  have L0:=RA.le0 (fun i hi=>(h2 i hi).1)
  have hB0:=L0 n (Nat.le_refl _) 0 (Nat.zero_le _)
  have hG':GR w' C f c1 n1 k1 c2 n2 k2 (X n) S:=hG.growS h1 (by decide) r2
  refine hK g cap w' ⟨_,fun i=>if i<n then lo i else if i=n then C else w'.heap.size,r1,fun i hi=>?_,?_,?_,Nat.le_refl _⟩ r2 r3 r4
  ·rcases (by omega:i<n∨i=n) with hi'|rfl
   ·obtain ⟨k0,p,a',na,ca,d,nd,cd,e,k1',k2'⟩:=h2 i hi'
    simp only [hi',if_true]
    have hle:lo (i+1)≤(if i+1<n then lo (i+1) else if i+1=n then C else w'.heap.size):=by
     by_cases h7:i+1<n
     ·rw [if_pos h7];exact Nat.le_refl _
     ·have h8:i+1=n:=by omega
      rw [if_neg h7,if_pos h8,h8];exact h4
    exact ⟨Nat.le_trans k0 hle,p,a',na,ca,d,nd,cd,e,k1'.growS h1 (by decide) r2,fun g hg=>Nat.lt_of_lt_of_le (k2' g hg) hle⟩
   ·have e1:¬ i+1<i:=by omega
    have e2:¬ i+1=i:=by omega
    simp only [Nat.lt_irrefl,if_false,if_true,e1,e2]
    exact ⟨by omega,f,c1,n1,k1,c2,n2,k2,rfl,hG',fun g hg=>(hG'.blk g hg).2⟩
  ·by_cases h7:0<n
   ·simp only [h7,if_true];exact h3
   ·obtain rfl:n=0:=by omega
    simp only [Nat.lt_irrefl,if_false,if_true];omega
  ·have e1:¬ n+1<n:=by omega
   have e2:¬ n+1=n:=by omega
   simp only [e1,e2,if_false];exact Nat.le_refl _
end Go.Proofs.YtmeimjakdheidaaGreatDoor
