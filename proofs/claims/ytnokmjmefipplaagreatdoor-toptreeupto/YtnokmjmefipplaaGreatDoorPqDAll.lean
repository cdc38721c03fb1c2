import Derived.Test.YtnokmjmefipplaaGreatDoorOpRAll
import Derived.Test.YtnokmjmefipplaaGreatDoorPqC
set_option maxRecDepth 100000
set_option maxHeartbeats 8000000
namespace Go.Proofs.YtnokmjmefipplaaGreatDoor
open Go.RowKit
def Ov (D A:Int) (r:Rat):Prop:=∃ m:Int,r * (D:Rat) = (m:Rat)∧(m.natAbs:Int)≤A * D
theorem Ov.lift {D A E:Int} {r:Rat} (h:Ov D A r) (hE:0≤E):Ov (D * E) A r:=by
 obtain ⟨m,h1,h2⟩:=h
 refine ⟨m * E,by rw [Rat.intCast_mul,← Rat.mul_assoc,h1,Rat.intCast_mul],?_⟩
 rw [Int.natAbs_mul,Int.natCast_mul,Int.natAbs_of_nonneg hE,← Int.mul_assoc]
 exact Int.mul_le_mul_of_nonneg_right h2 hE
theorem Ov.lift' {D A E:Int} {r:Rat} (h:Ov D A r) (hE:0≤E):Ov (E * D) A r:=by rw [Int.mul_comm];exact h.lift hE
theorem Ov.add {D A B:Int} {r s:Rat} (h:Ov D A r) (k:Ov D B s):Ov D (A + B) (r + s):=by
 obtain ⟨m,h1,h2⟩:=h
 obtain ⟨n,k1,k2⟩:=k
 refine ⟨m + n,by rw [Rat.add_mul,h1,k1,Rat.intCast_add],?_⟩
 rw [Int.add_mul]
 omega
theorem Ov.mul {D E A B:Int} {r s:Rat} (h:Ov D A r) (k:Ov E B s):Ov (D * E) (A * B) (r * s):=by
 obtain ⟨m,h1,h2⟩:=h
 obtain ⟨n,k1,k2⟩:=k
 refine ⟨m * n,?_,?_⟩
 ·rw [Rat.intCast_mul,Rat.intCast_mul,← h1,← k1,Rat.mul_assoc,Rat.mul_assoc]
  congr 1
  rw [← Rat.mul_assoc,Rat.mul_comm s,Rat.mul_assoc]
 ·rw [Int.natAbs_mul,Int.natCast_mul]
  have e:A * B * (D * E) = (A * D) * (B * E):=by
   rw [Int.mul_assoc,Int.mul_assoc]
   congr 1
   rw [← Int.mul_assoc,Int.mul_comm B,Int.mul_assoc]
  rw [e]
  exact Int.mul_le_mul h2 k2 (by omega) (by omega)
theorem Ov.zero {D:Int}:Ov D 0 0:=⟨0,by rw [Rat.zero_mul];rfl,by simp⟩
theorem Ov.self {r:Rat} {T:Nat} (h:SzR r T):Ov (r.den:Int) (pw T) r:=by
 refine ⟨r.num,?_,?_⟩
 ·have hd:(((r.den:Int)):Rat) ≠ 0:=by
   intro e
   have e2:(r.den:Int) = 0:=by exact_mod_cast e
   have:=r.den_pos
   omega
  have e1:r = (r.num:Rat) / ((r.den:Int):Rat):=by rw [← Rat.divInt_eq_div,Rat.num_divInt_den]
  have e2:r * ((r.den:Int):Rat) = (r.num:Rat) / ((r.den:Int):Rat) * ((r.den:Int):Rat):=congrArg (· * ((r.den:Int):Rat)) e1
  rw [e2,Rat.div_mul_cancel hd]
 ·have h1:=h.1
  have hd:(1:Int)≤(r.den:Int):=by have:=r.den_pos;omega
  have h2:pw T * 1≤pw T * (r.den:Int):=Int.mul_le_mul_of_nonneg_left hd (Int.le_of_lt (bH T))
  omega
theorem Ov.sz {D A:Int} {r:Rat} {a d:Nat} (h:Ov D A r) (hD:0 < D) (hd:D < pw d) (hA:A < pw a) (ha:1≤a + d):SzR r (a + d):=by
 obtain ⟨m,h1,h2⟩:=h
 have e:r = Rat.divInt m D:=by
  have hD0:(D:Rat) ≠ 0:=by
   intro e
   have:D = 0:=by exact_mod_cast e
   omega
  rw [Rat.divInt_eq_div,← h1,Rat.div_def,Rat.mul_assoc,Rat.mul_inv_cancel _ hD0,Rat.mul_one]
 rw [e]
 have h3:A * D < pw (a + d):=by
  rcases Int.lt_or_le A 0 with hn | hp
  ·have h5:A * D≤0:=Int.mul_nonpos_of_nonpos_of_nonneg (Int.le_of_lt hn) (Int.le_of_lt hD)
   have:=bH (a + d)
   omega
  ·have e1:(A.natAbs:Int) = A:=Int.natAbs_of_nonneg hp
   have e2:(D.natAbs:Int) = D:=Int.natAbs_of_nonneg (Int.le_of_lt hD)
   have h6:=mul_lt (x:=A) (y:=D) (S:=a) (R:=d) (by omega) (by omega)
   have e3:((A * D).natAbs:Int) = A * D:=Int.natAbs_of_nonneg (Int.mul_nonneg hp (Int.le_of_lt hD))
   omega
 refine qM (by omega) ?_ ha
 have:=bF (show d≤a + d by omega)
 omega
def jR (X:Nat→Rat):Nat→Int
 | 0=>1
 | n + 1=>jR X n * ((X n).den:Int)
theorem nH (X:Nat→Rat):∀ n,0 < jR X n
 | 0=>by show (0:Int) < 1;decide
 | n + 1=>Int.mul_pos (nH X n) (by have:=(X n).den_pos;omega)
theorem yM {X:Nat→Rat} {Z:Nat→Nat}:∀ n,(∀ i,i < n→SzR (X i) (Z i))→jR X n < pw (tot Z n)
 | 0,_=>by show (1:Int) < pw 1;decide
 | n + 1,h=>by
  have h1:=yM n (fun i hi=>h i (by omega))
  have h2:=(h n (by omega)).2
  have p1:=nH X n
  have p2:=(X n).den_pos
  have e1:((jR X n).natAbs:Int) = jR X n:=Int.natAbs_of_nonneg (Int.le_of_lt p1)
  have h3:=mul_lt (x:=jR X n) (y:=((X n).den:Int)) (S:=tot Z n) (R:=Z n) (by omega) (by simpa using h2)
  have e3:((jR X n * ((X n).den:Int)).natAbs:Int) = jR X n * ((X n).den:Int):=Int.natAbs_of_nonneg (Int.mul_nonneg (Int.le_of_lt p1) (by omega))
  have:=bF (show tot Z n + Z n≤tot Z (n + 1) by show _≤tot Z n + Z n + 1;omega)
  show jR X n * ((X n).den:Int) < _
  omega
theorem yN {X:Nat→Rat} {Z:Nat→Nat} {T:Nat}:∀ n,(∀ i,i < n→SzR (X i) (Z i)∧Z i≤T)→∀ i,i < n→Ov (jR X n) (pw T) (X i)
 | 0,_,i,hi=>by omega
 | n + 1,h,i,hi=>by
  show Ov (jR X n * ((X n).den:Int)) _ _
  rcases (by omega:i < n∨i = n) with h1 | rfl
  ·exact (yN n (fun i hi=>h i (by omega)) i h1).lift (by omega)
  ·exact (Ov.self ((h i (by omega)).1.le (h i (by omega)).2)).lift' (Int.le_of_lt (nH X i))
theorem rsum_ov {X:Nat→Rat} {D A:Int} {n:Nat} (h:∀ i,i < n→Ov D A (X i)):∀ k,k≤n→Ov D (k * A) (aQ X k)
 | 0,_=>by simp only [Int.natCast_zero,Int.zero_mul];exact Ov.zero
 | k + 1,hk=>by
  have h1:=(rsum_ov h k (by omega)).add (h k (by omega))
  rw [show (((k + 1:Nat):Int) * A) = (k:Int) * A + A by rw [Int.natCast_add,Int.add_mul,Int.natCast_one,Int.one_mul]]
  exact h1
theorem knownQ (P:Prob) (xa:Option Addr) (n xc m:Nat) (w:World) (hn:n≤xc) (hm:m = min n P.vn) :
 Calls Tryz.prog 49 #[P.val,.slice xa n xc] w fun e w'=>e = .returned (.slice xa m xc)∧Below w.heap.size w w':=by
 unfold Prob.val
 have x0:=aG w (.cells #[.bool P.mx,.string P.nm,.bool P.p,.slice P.a P.na P.ca,.slice P.d P.nd P.cd,.slice P.va P.vn P.vc,.slice P.ra P.rn P.rc] 31)
 go_enter Tryz.func49,Tryz.ntmps49
 go_wp2
 go_ret
 exact ⟨by rw [hm,show (min (n:Int) (P.vn:Int)).toNat = min n P.vn by omega];rfl,x0⟩
def prt (k:Rat) (V:Nat→PV) (X:Nat→Rat):Nat→Rat
 | 0=>k
 | i + 1=>(V i).obj * X i
theorem valueQ (P:Prob) {xa:Option Addr} {n xc:Nat} {X:Nat→Rat} {Z:Nat→Nat} {S T m:Nat} (w:World) (hP:PQ w P) (hx:LQ w xa n X Z) (hn:n≤xc) (hm:m = min n P.vn) (hK:P.S≤S) (hz:∀ j,j < m→1≤Z j∧P.ZV j + Z j≤S)
 (hST:T + S≤6000000) (hT1:1≤T) (hsz:∀ j,j≤m + 1→SzR (aQ (prt P.k P.V X) j) T) (hm1:m≤1048576) (hT:TB w) :
 Calls Tryz.prog 24 #[P.val,.slice xa n xc] w fun e w'=>∃ f c n1 k1 c' n' k',e = .returned (.agg #[.bool f,.slice c n1 k1,.slice c' n' k'])∧GR w' w.heap.size f c n1 k1 c' n' k' (aQ (prt P.k P.V X) (m + 1)) T∧Below w.heap.size w w':=by
 have HS:Hid (∀ j,j≤m + 1→SzR (aQ (prt P.k P.V X) j) T):=hsz
 clear hsz
 unfold Prob.val
 go_enter Tryz.func24,Tryz.ntmps24
 go_wp2_with fail
 obtain ⟨P0,P1,_,hb,hs⟩:=iT w #[.bool P.mx,.string P.nm,.bool P.p,.slice P.a P.na P.ca,.slice P.d P.nd P.cd,.slice P.va P.vn P.vc,.slice P.ra P.rn P.rc] 31 #[.bool false,.slice none 0 0,.slice none 0 0] 27 #[.bool P.p,.slice P.a P.na P.ca,.slice P.d P.nd P.cd] 27
 have R0:Var3 (((w.alloc (.cells #[.bool P.mx,.string P.nm,.bool P.p,.slice P.a P.na P.ca,.slice P.d P.nd P.cd,.slice P.va P.vn P.vc,.slice P.ra P.rn P.rc] 31)).alloc (.cells #[.bool false,.slice none 0 0,.slice none 0 0] 27)).alloc (.cells #[.bool P.p,.slice P.a P.na P.ca,.slice P.d P.nd P.cd] 27)) (w.heap.size + 1) (.bool false) (.slice none 0 0) (.slice none 0 0):=by
  have h:=(aN (w.alloc (.cells #[.bool P.mx,.string P.nm,.bool P.p,.slice P.a P.na P.ca,.slice P.d P.nd P.cd,.slice P.va P.vn P.vc,.slice P.ra P.rn P.rc] 31)) (.bool false) (.slice none 0 0) (.slice none 0 0) 27).alloc (.cells #[.bool P.p,.slice P.a P.na P.ca,.slice P.d P.nd P.cd] 27)
  simpa using h
 have L0:ML (((w.alloc (.cells #[.bool P.mx,.string P.nm,.bool P.p,.slice P.a P.na P.ca,.slice P.d P.nd P.cd,.slice P.va P.vn P.vc,.slice P.ra P.rn P.rc] 31)).alloc (.cells #[.bool false,.slice none 0 0,.slice none 0 0] 27)).alloc (.cells #[.bool P.p,.slice P.a P.na P.ca,.slice P.d P.nd P.cd] 27)) (w.heap.size + 2) (.slice (some ⟨w.heap.size + 2,0,none⟩) 1 1) 1 (prt P.k P.V X) S :=
  ML.one (EL.of_tr (((hP.k.up hK).below (aG _ _)).below (aG _ _)) (by simp)) (by simp) _ (by simp)
 generalize ((w.alloc (.cells #[.bool P.mx,.string P.nm,.bool P.p,.slice P.a P.na P.ca,.slice P.d P.nd P.cd,.slice P.va P.vn P.vc,.slice P.ra P.rn P.rc] 31)).alloc (.cells #[.bool false,.slice none 0 0,.slice none 0 0] 27)).alloc (.cells #[.bool P.p,.slice P.a P.na P.ca,.slice P.d P.nd P.cd] 27) = W at *
 refine (knownQ P xa n xc m W hn hm).mono ?_
 have hmn:m≤n:=by omega
 have hmv:m≤P.vn:=by omega
 clear hm
 rintro e w1 ⟨rfl,h1⟩
 have hs1:=Below.size h1
 replace P0:=P0.below h1
 replace R0:=R0.below h1
 replace L0:=L0.below (by omega) h1
 replace hb:=aB hb h1
 clear h1 P1
 go_wp2
 go_loopw [5,15] (fun s5 s15 wr=>∃ (i:Nat),i≤m∧s15 = .int .i64 i∧ML wr (w.heap.size + 2) s5 (i + 1) (prt P.k P.V X) S∧Var3 wr (w.heap.size + 1) (.bool false) (.slice none 0 0) (.slice none 0 0)∧BoxC wr w.heap.size #[.bool P.mx,.string P.nm,.bool P.p,.slice P.a P.na P.ca,.slice P.d P.nd P.cd,.slice P.va P.vn P.vc,.slice P.ra P.rn P.rc].toList∧Below w.heap.size w wr∧w.heap.size + 3≤wr.heap.size) (fun _ s15 _=>m - (intOf s15).toNat)
 case atStart=>exact ⟨0,Nat.zero_le _,rfl,L0,R0,P0,hb,by omega⟩
 case round =>
  obtain ⟨i,hi,rfl,L,R,Pb,hbel,hsr⟩:=hrel
  clear L0 R0 P0 hb
  obtain ⟨o1,k1,rfl⟩:=L.form
  by_cases hlt:i < m
  ·have hkI:(i:Int) < (m:Int):=by omega
   obtain ⟨hz1,hz2⟩:=hz i hlt
   obtain ⟨q5,_⟩:wr.cell? ⟨w.heap.size,5,none⟩ = some (.slice P.va P.vn P.vc)∧True:=⟨Pb 5 _ rfl,trivial⟩
   rcases (hx.below hbel) with h0 | ⟨bx,ox,rfl,hel⟩
   ·omega
   obtain ⟨pA,aA,nA,cA,dA,mA,lA,c0,c1,c2,hA⟩:=hel i (by omega)
   rcases (hP.v.below hbel) with h0 | ⟨bv,ov,hva,hev⟩
   ·omega
   have hV:=hev i (by omega)
   obtain ⟨pO,aO,nO,cO,dO,mO,lO,v0,v1,v2,hO⟩:=hV.obj
   have hs1v:=hV.s1
   have hkI2:(i:Int) * 3 = ((i * 3:Nat):Int):=by omega
   have hkI3:(i:Int) * 13 = ((i * 13:Nat):Int):=by omega
   clear hel hev hV
   have hva':P.va = some ⟨bv,ov,none⟩:=hva
   rw [hva'] at q5
   have hvI:(i:Int) < (P.vn:Int):=by omega
   have hbv:bv < w.heap.size:=by
    rcases hP.v with h0 | ⟨b',o',e',hev'⟩
    ·omega
    ·rw [e'] at hva'
     simp only [Option.some.injEq,Addr.mk.injEq] at hva'
     obtain ⟨rfl,_,_⟩:=hva'
     exact World.block_lt_of_cell? _ _ (hev' i (by omega)).nm
   go_wp2_with fail
   have N:=aN wr (.bool pA) (.slice aA nA cA) (.slice dA mA lA) 27
   have hz:=aG wr (.cells #[.bool pA,.slice aA nA cA,.slice dA mA lA] 27)
   have hsz2:(wr.alloc (.cells #[.bool pA,.slice aA nA cA,.slice dA mA lA] 27)).heap.size = wr.heap.size + 1:=by simp
   have hrow:∀ g,(Value.slice o1 (i + 1) k1).ownBlock = some g→w.heap.size + 2≤g∧g < wr.heap.size:=fun g hg=>L.lt g hg
   replace L:=L.below (by omega) hz
   replace R:=R.below hz
   replace Pb:=Pb.below hz
   replace hA:=hA.below hz
   replace hO:=hO.below hz
   have hTw:=hT.below (aB hbel hz)
   replace hbel:=aB hbel hz
   have q5':=aF hz q5
   have v0':=aF hz v0
   have v1':=aF hz v1
   have v2':=aF hz v2
   generalize wr.alloc (.cells #[.bool pA,.slice aA nA cA,.slice dA mA lA] 27) = W2 at *
   have HB:∀ w',Below W2.heap.size W2 w'→(w'.cell? ⟨w.heap.size,5,none⟩ = some (.slice (some ⟨bv,ov,none⟩) P.vn P.vc)∧w'.cell? ⟨bv,ov + i * 13 + 1,none⟩ = some (.bool pO)∧w'.cell? ⟨bv,ov + i * 13 + 1 + 1,none⟩ = some (.slice aO nO cO)∧w'.cell? ⟨bv,ov + i * 13 + 1 + 2,none⟩ = some (.slice dO mO lO)∧w'.cell? ⟨wr.heap.size,0,none⟩ = some (.bool pA)∧w'.cell? ⟨wr.heap.size,1,none⟩ = some (.slice aA nA cA)∧w'.cell? ⟨wr.heap.size,2,none⟩ = some (.slice dA mA lA)) :=
    fun w' h=>⟨aF h q5',aF h v0',aF h v1',aF h v2',aF h N.c0,aF h N.c1,aF h N.c2⟩
   have HG:∀ V w':World,(V.cell? ⟨w.heap.size,5,none⟩ = some (.slice (some ⟨bv,ov,none⟩) P.vn P.vc)∧V.cell? ⟨bv,ov + i * 13 + 1,none⟩ = some (.bool pO)∧V.cell? ⟨bv,ov + i * 13 + 1 + 1,none⟩ = some (.slice aO nO cO)∧V.cell? ⟨bv,ov + i * 13 + 1 + 2,none⟩ = some (.slice dO mO lO)∧V.cell? ⟨wr.heap.size,0,none⟩ = some (.bool pA)∧V.cell? ⟨wr.heap.size,1,none⟩ = some (.slice aA nA cA)∧V.cell? ⟨wr.heap.size,2,none⟩ = some (.slice dA mA lA))→V.grownBy w' (Value.slice o1 (i + 1) k1).ownBlock→(w'.cell? ⟨w.heap.size,5,none⟩ = some (.slice (some ⟨bv,ov,none⟩) P.vn P.vc)∧w'.cell? ⟨bv,ov + i * 13 + 1,none⟩ = some (.bool pO)∧w'.cell? ⟨bv,ov + i * 13 + 1 + 1,none⟩ = some (.slice aO nO cO)∧w'.cell? ⟨bv,ov + i * 13 + 1 + 2,none⟩ = some (.slice dO mO lO)∧w'.cell? ⟨wr.heap.size,0,none⟩ = some (.bool pA)∧w'.cell? ⟨wr.heap.size,1,none⟩ = some (.slice aA nA cA)∧w'.cell? ⟨wr.heap.size,2,none⟩ = some (.slice dA mA lA)) :=
    fun V w' h hg=>⟨aP hg h.1 (fun e=>by have:=hrow _ e;simp at this;omega),aP hg h.2.1 (fun e=>by have:=hrow _ e;simp at this;omega),aP hg h.2.2.1 (fun e=>by have:=hrow _ e;simp at this;omega),aP hg h.2.2.2.1 (fun e=>by have:=hrow _ e;simp at this;omega),aP hg h.2.2.2.2.1 (fun e=>by have:=hrow _ e;simp at this),aP hg h.2.2.2.2.2.1 (fun e=>by have:=hrow _ e;simp at this),aP hg h.2.2.2.2.2.2 (fun e=>by have:=hrow _ e;simp at this)⟩
   clear q5 v0 v1 v2 c0 c1 c2 hz
   obtain ⟨n0,n1,n2,_,_,_⟩:=id N
   go_region_held3 (fun w'=>w'.cell? ⟨w.heap.size,5,none⟩ = some (.slice (some ⟨bv,ov,none⟩) P.vn P.vc)∧w'.cell? ⟨bv,ov + i * 13 + 1,none⟩ = some (.bool pO)∧w'.cell? ⟨bv,ov + i * 13 + 1 + 1,none⟩ = some (.slice aO nO cO)∧w'.cell? ⟨bv,ov + i * 13 + 1 + 2,none⟩ = some (.slice dO mO lO)∧w'.cell? ⟨wr.heap.size,0,none⟩ = some (.bool pA)∧w'.cell? ⟨wr.heap.size,1,none⟩ = some (.slice aA nA cA)∧w'.cell? ⟨wr.heap.size,2,none⟩ = some (.slice dA mA lA))
    (first | (with_reducible refine HG _ _ (HB _ ?_) hgrow;repeat' (first | with_reducible exact hc1 | with_reducible exact Below.refl _ _ | with_reducible refine qO ?_ | with_reducible refine gK ?_)) | (with_reducible refine HB _ ?_;repeat' (first | with_reducible exact hc1 | with_reducible exact Below.refl _ _ | with_reducible refine qO ?_ | with_reducible refine gK ?_)))
    ((first
     | (go_at_call 50;go_fit (zZ _ (hO.below (by first | exact aK _ | exact dL _ _)) (hA.below (by first | exact aK _ | exact dL _ _)) (by omega) (by omega) (by omega) (hTw.below (by first | exact aK _ | exact dL _ _)));rintro e v1 ⟨f2,c2,n2,k2,c3,n3,k3,rfl,G2,hb1⟩;have hc1:Below W2.heap.size W2 v1:=(by first | exact aB (aK _) hb1 | exact aB (dL _ _) hb1);have hsv1:=Below.size hc1)
     | (refine pR _ (by rfl) _ _ (by rfl) (w.heap.size + 2) (.slice o1 (i + 1) k1) (i + 1) (prt P.k P.V X) S (by rfl) ((L.below (by omega) hc1).below (by omega) (aG _ _)) v1.heap.size _ (by rfl) f2 c2 n2 k2 c3 n3 k3 _ (fK (by rfl)) (.inl (((G2.below (aG _ _)).mono (by simp;omega)).le (by omega))) (by omega) (by simp;omega) (v1.heap.size + 1) (by simp) ?_;intro g cap1 w3 LN hgrow hat hlt1)))
   have LN':ML w3 (w.heap.size + 2) (.slice (some ⟨g,0,none⟩) (i + 1 + 1) cap1) (i + 1 + 1) (prt P.k P.V X) S:=LN.congr (fun j hj=>by
    by_cases h:j < i + 1
    ·simp only [h,if_true]
    ·obtain rfl:j = i + 1:=by omega
     simp only [h,if_false]
     rfl)
   have R':=((R.below hc1).alloc (.cells #[.bool f2,.slice c2 n2 k2,.slice c3 n3 k3] 27)).grown hgrow (fun e=>by have:=hrow _ e;omega)
   have Pb':BoxC w3 w.heap.size _:=fun j u hu=>aP hgrow (((Pb.below hc1).below (aG v1 _)) j u hu) (fun e=>by have:=hrow _ e;simp at this;omega)
   have hg2:=grown_below (B:=w.heap.size + 2) hgrow (by simp;omega) (fun g hg=>(hrow g hg).1)
   have hbel':Below w.heap.size w w3:=(gK (aB hbel hc1)).trans (hg2.mono (by omega))
   have hs3:=hbel'.size
   have hs4:v1.heap.size + 1≤w3.heap.size:=by have:=hg2.size;simpa using this
   clear HB HG LN L R Pb hbel N hgrow hat hlt1
   rw [← hva']
   clear hva hva'
   go_wp2
   go_roundw
   case rel=>first | exact ⟨i + 1,by omega,by go_num,LN',R',Pb',hbel',by omega⟩ | ((repeat apply Exists.intro);refine ⟨?_,rfl⟩;exact ⟨i + 1,by omega,by go_num,LN',R',Pb',hbel',by omega⟩)
   case measure=>simp [intOf];omega
  ·have hkI:¬ (i:Int) < (m:Int):=by omega
   obtain rfl:i = m:=by omega
   go_wp2_with fail
   have hq:=L.lq
   have hS1:1≤S:=by have:=hP.s1;omega
   have hzz:∀ j,j < i + 1→1≤(fun _:Nat=>S) j∧T + (fun _:Nat=>S) j≤6000000:=fun j _=>⟨hS1,hST⟩
   have hTr:=hT.below hbel
   have hi1:i + 1≤1100000:=by omega
   have HH:=sumQ o1 (i + 1) k1 (prt P.k P.V X) (fun _=>S) T wr hq hzz hT1 HS.out hi1 hTr
   clear hq hzz hTr
   refine HH.mono ?_
   clear HH
   rintro e w2 ⟨f,c,n1,k2,d,m2,l2,rfl,G,hx2⟩
   have hs2:=Below.size hx2
   replace R:=R.below hx2
   replace hbel:=aB hbel hx2
   clear hx2 L Pb
   obtain ⟨r0,r1,r2,r3,r4,r5⟩:=id R
   obtain ⟨VV,O⟩:=R.set (.bool f) (.slice c n1 k2) (.slice d m2 l2)
   have GF:=G.off O (by omega)
   have hw:=hbel.trans (O.below (by omega))
   clear R O G hbel
   go_wp2
   refine bodyPost_ret (v:=.agg #[.bool f,.slice c n1 k2,.slice d m2 l2]) (by simp [results,Tryz.results24,go_sem,VV.c0,VV.c1,VV.c2]) rfl ?_
   replace GF:=GF.mono (B':=w.heap.size) (by omega)
   exact ⟨_,_,_,_,_,_,_,rfl,GF,hw⟩
def tv (r:PW) (X:Nat→Rat) (m k:Nat):Rat:=if 0≤(r.t k).var∧(r.t k).var < (m:Int) then (r.t k).coef * X (r.t k).var.toNat else 0
def cv (r:PW) (X:Nat→Rat) (m:Nat):Rat:=aQ (tv r X m) r.nt
theorem bI {Z:Nat→Nat} {n i:Nat} (h:i < n):Z i≤tot Z n:=by have:=tot_one (Z:=Z) h;omega
theorem sum_sz {Y:Nat→Rat} {D A:Int} {n a d:Nat} (h:∀ i,i < n→Ov D A (Y i)) (hD:0 < D) (hd:D < pw d) (hA0:0≤A) (hA:A < pw a) (hn:n≤18446744073709551615):∀ k,k≤n→SzR (aQ Y k) (1 + a + d):=by
 intro k hk
 refine (rsum_ov h k hk).sz hD hd ?_ (by omega)
 have e1:(A.natAbs:Int) = A:=Int.natAbs_of_nonneg hA0
 have e0:pw 1 = 18446744073709551616:=rfl
 have h6:=mul_lt (x:=(k:Int)) (y:=A) (S:=1) (R:=a) (by omega) (by omega)
 have e3:(((k:Int) * A).natAbs:Int) = (k:Int) * A:=Int.natAbs_of_nonneg (Int.mul_nonneg (by omega) hA0)
 omega
theorem dN {A B:Int} {a b:Nat} (hA0:0≤A) (hA:A < pw a) (hB0:0≤B) (hB:B < pw b):A * B < pw (a + b)∧0≤A * B:=by
 have e1:(A.natAbs:Int) = A:=Int.natAbs_of_nonneg hA0
 have e2:(B.natAbs:Int) = B:=Int.natAbs_of_nonneg hB0
 have h6:=mul_lt (x:=A) (y:=B) (S:=a) (R:=b) (by omega) (by omega)
 have h0:=Int.mul_nonneg hA0 hB0
 have e3:((A * B).natAbs:Int) = A * B:=Int.natAbs_of_nonneg h0
 omega
theorem RL.mono {w:World} {B B':Nat} {v:Value} {n:Nat} {X:Nat→Rat} {S:Nat} (h:RL w B v n X S) (hB:B'≤B):RL w B' v n X S:=by
 obtain ⟨vs,h1,h2⟩:=h
 refine ⟨vs,⟨h1.1,?_⟩,fun i hi=>?_⟩
 ·rcases h1.2 with hn | ⟨g,cap,cur,e1,e2,rest⟩
  ·exact .inl hn
  ·exact .inr ⟨g,cap,cur,e1,by omega,rest⟩
 ·obtain ⟨p,a,na,ca,d,nd,cd,g1,g2,g3,g4⟩:=h2 i hi
  exact ⟨p,a,na,ca,d,nd,cd,g1,g2,g3,g4.mono hB⟩
theorem LT.sz {w:World} {a:Option Addr} {n:Nat} {t:Nat→PT} {Z:Nat→Nat} (h:LT w a n t Z):∀ q,q < n→SzR (t q).coef (Z q):=by
 intro q hq
 rcases h with h | ⟨b,o,_,h⟩
 ·omega
 ·exact (h q hq).2.2.2.1
theorem row_sz {r:PW} {X:Nat→Rat} {Zt:Nat→Nat} {Y:Nat→Rat} {m c R dx ax:Nat} {Dx Ax:Int} (hC:∀ q,q < r.nt→SzR (r.t q).coef (Zt q)) (htot:tot Zt r.nt≤R) (hX:∀ j,j < m→Ov Dx Ax (X j)) (hD:0 < Dx∧Dx < pw dx) (hA:0≤Ax∧Ax < pw ax)
 (HY:∀ j,j < c→∃ q,Y j = tv r X m q∧q < r.nt∧0≤(r.t q).var∧(r.t q).var < (m:Int)) (hc:c≤1048576):∀ k,k≤c→SzR (aQ Y k) (R + R + ax + dx + 2):=by
 have hZ:∀ q,q < r.nt→Zt q≤R:=fun q hq=>by have:=bI (Z:=Zt) hq;omega
 have h1:∀ q,q < r.nt→Ov (jR (fun q=>(r.t q).coef) r.nt) (pw R) (r.t q).coef:=fun q hq=>yN (X:=fun q=>(r.t q).coef) (Z:=Zt) (T:=R) r.nt (fun i hi=>⟨hC i hi,hZ i hi⟩) q hq
 have p1:=nH (fun q=>(r.t q).coef) r.nt
 have p2:jR (fun q=>(r.t q).coef) r.nt < pw R:=Int.lt_of_lt_of_le (yM (X:=fun q=>(r.t q).coef) (Z:=Zt) r.nt hC) (bF htot)
 generalize jR (fun q=>(r.t q).coef) r.nt = D at *
 have q1:=dN (A:=pw R) (B:=Ax) (a:=R + 1) (b:=ax) (Int.le_of_lt (bH R)) (by have:=bU R;have:=bH R;omega) hA.1 hA.2
 have q2:=dN (A:=D) (B:=Dx) (a:=R) (b:=dx) (Int.le_of_lt p1) p2 (Int.le_of_lt hD.1) hD.2
 have q3:0 < D * Dx:=Int.mul_pos p1 hD.1
 intro k hk
 have h2:=sum_sz (Y:=Y) (D:=D * Dx) (A:=pw R * Ax) (n:=c) (a:=R + 1 + ax) (d:=R + dx) (fun j hj=>by
  obtain ⟨q,e1,e2,e3,e4⟩:=HY j hj
  rw [e1]
  unfold tv
  rw [if_pos ⟨e3,e4⟩]
  exact (h1 q e2).mul (hX _ (by omega))) q3 q2.1 q1.2 q1.1 (by omega) k hk
 exact h2.le (by omega)
theorem sumsQ (P:Prob) {xa:Option Addr} {n xc:Nat} {X:Nat→Rat} {Z:Nat→Nat} {S T m:Nat} {Dx Ax:Int} {dx ax:Nat} (w:World) (hP:PQ w P) (hx:LQ w xa n X Z) (hn:n≤xc) (hm:m = min n P.vn) (hz:∀ i j,i < P.rn→j < m→1≤Z j∧P.ZR i + Z j≤S) (hS1:1≤S)
 (hST:T + S≤6000000) (hD:0 < Dx) (hd:Dx < pw dx) (hA0:0≤Ax) (hA:Ax < pw ax) (hX:∀ j,j < m→Ov Dx Ax (X j)) (hT1:∀ i,i < P.rn→P.ZR i + P.ZR i + ax + dx + 2≤T) (hT0:1≤T) (hK:P.K≤1048576) (hT:TB w) :
 Calls Tryz.prog 72 #[P.val,.slice xa n xc] w fun e w'=>∃ a cap,e = .returned (.slice a P.rn cap)∧RL w' w.heap.size (.slice a P.rn cap) P.rn (fun i=>cv (P.R i) X m) T∧Below w.heap.size w w':=by
 have HX:Hid (∀ j,j < m→Ov Dx Ax (X j)):=hX
 have HZ:Hid (∀ i j,i < P.rn→j < m→1≤Z j∧P.ZR i + Z j≤S):=hz
 have HT1:Hid (∀ i,i < P.rn→P.ZR i + P.ZR i + ax + dx + 2≤T):=hT1
 have HDA:Hid ((0 < Dx∧Dx < pw dx)∧0≤Ax∧Ax < pw ax):=⟨⟨hD,hd⟩,hA0,hA⟩
 have hrn:P.rn≤1048576:=by have:=hP.all;have:=aT P.ZR P.rn;omega
 clear hX hz hT1 hD hd hA0 hA
 unfold Prob.val
 go_enter Tryz.func72,Tryz.ntmps72
 go_wp2_with fail
 have P0:=aJ w #[.bool P.mx,.string P.nm,.bool P.p,.slice P.a P.na P.ca,.slice P.d P.nd P.cd,.slice P.va P.vn P.vc,.slice P.ra P.rn P.rc] 31
 have hb:=aG w (.cells #[.bool P.mx,.string P.nm,.bool P.p,.slice P.a P.na P.ca,.slice P.d P.nd P.cd,.slice P.va P.vn P.vc,.slice P.ra P.rn P.rc] 31)
 have hs:(w.alloc (.cells #[.bool P.mx,.string P.nm,.bool P.p,.slice P.a P.na P.ca,.slice P.d P.nd P.cd,.slice P.va P.vn P.vc,.slice P.ra P.rn P.rc] 31)).heap.size = w.heap.size + 1:=by simp
 generalize w.alloc (.cells #[.bool P.mx,.string P.nm,.bool P.p,.slice P.a P.na P.ca,.slice P.d P.nd P.cd,.slice P.va P.vn P.vc,.slice P.ra P.rn P.rc] 31) = W at *
 refine (knownQ P xa n xc m W hn hm).mono ?_
 have hmn:m≤n:=by omega
 clear hm
 rintro e w1 ⟨rfl,h1⟩
 have hs1:=Below.size h1
 replace P0:=P0.below h1
 replace hb:=aB hb h1
 clear h1
 have p6:=P0 6 _ rfl
 go_wp2
 go_loopw [5,17] (fun s5 s17 wr=>∃ (i:Nat),i≤P.rn∧s17 = .int .i64 i∧RL wr (w.heap.size + 1) s5 i (fun j=>cv (P.R j) X m) T∧Below w.heap.size w wr∧w.heap.size + 1≤wr.heap.size) (fun _ s17 _=>P.rn - (intOf s17).toNat)
 case atStart=>exact ⟨0,Nat.zero_le _,rfl,RL.nil _ _ _ _,hb,by omega⟩
 case round =>
  obtain ⟨i,hi,rfl,L,hbel,hsr⟩:=hrel
  clear P0 hb p6
  obtain ⟨o1,k1,rfl⟩:=L.form
  by_cases hlt:i < P.rn
  ·have hkI:(i:Int) < (P.rn:Int):=by omega
   rcases (hP.r.below hbel) with h0 | ⟨rb,ro,hra,hew⟩
   ·omega
   have hR:=hew i hlt
   have hZi:P.ZR i≤1048576:=by have:=bI (Z:=P.ZR) hlt;have:=hP.all;omega
   obtain ⟨nmR,enm⟩:∃ nmR,nmR = (P.R i).nm:=⟨_,rfl⟩
   obtain ⟨nt,ent⟩:∃ nt,nt = (P.R i).nt:=⟨_,rfl⟩
   obtain ⟨hl,ehl⟩:∃ hl,hl = (P.R i).hlo:=⟨_,rfl⟩
   obtain ⟨hh,ehh⟩:∃ hh,hh = (P.R i).hhi:=⟨_,rfl⟩
   have r0:=hR.nm
   obtain ⟨ta,tc,Zt,r1,hLT,htot,htc⟩:=hR.terms
   have r2:=hR.hlo
   obtain ⟨pl,al,nl,cl,dl,ml,ll,r3,r4,r5,_⟩:=hR.lo
   have r6:=hR.hhi
   obtain ⟨ph,ah,nh,ch,dh,mh,lh,r7,r8,r9,_⟩:=hR.hi
   rw [← enm] at r0
   rw [← ent] at r1 hLT htot htc
   rw [← ehl] at r2
   rw [← ehh] at r6
   have ENT:Hid (nt = (P.R i).nt):=ent
   have hkI2:(i:Int) * 10 = ((i * 10:Nat):Int):=by omega
   have hnt:nt≤1048576:=by have:=aT Zt nt;omega
   have hra':P.ra = some ⟨rb,ro,none⟩:=hra
   clear hew hR enm ent ehl ehh hra
   go_wp2
   have Bx:=aJ wr #[.string nmR,.slice ta nt tc,.bool hl,.bool pl,.slice al nl cl,.slice dl ml ll,.bool hh,.bool ph,.slice ah nh ch,.slice dh mh lh] 72
   have hz:=aG wr (.cells #[.string nmR,.slice ta nt tc,.bool hl,.bool pl,.slice al nl cl,.slice dl ml ll,.bool hh,.bool ph,.slice ah nh ch,.slice dh mh lh] 72)
   have hsz2:wr.heap.size + 1≤(wr.alloc (.cells #[.string nmR,.slice ta nt tc,.bool hl,.bool pl,.slice al nl cl,.slice dl ml ll,.bool hh,.bool ph,.slice ah nh ch,.slice dh mh lh] 72)).heap.size:=by simp
   have hLT2:=hLT.below hz
   have L2:=L.below hz
   have hbel2:=aB hbel hz
   clear r0 r1 r2 r3 r4 r5 r6 r7 r8 r9 hz hLT L hbel Bx
   generalize wr.alloc (.cells #[.string nmR,.slice ta nt tc,.bool hl,.bool pl,.slice al nl cl,.slice dl ml ll,.bool hh,.bool ph,.slice ah nh ch,.slice dh mh lh] 72) = W2 at *
   go_loopw [8,24] (fun s8 s24 wq=>∃ (k c:Nat) (Y:Nat→Rat),k≤nt∧c≤k∧s24 = .int .i64 k∧ML wq W2.heap.size s8 c Y S∧(∀ j,j < c→∃ q,Y j = tv (P.R i) X m q∧q < nt∧0≤((P.R i).t q).var∧((P.R i).t q).var < (m:Int))∧aQ Y c = aQ (tv (P.R i) X m) k∧Below W2.heap.size W2 wq) (fun _ s24 _=>nt - (intOf s24).toNat)
   case atStart=>exact ⟨0,0,fun _=>0,Nat.zero_le _,Nat.zero_le _,rfl,(RL.nil _ _ _ _).ml,fun j hj=>by omega,rfl,Below.refl _ _⟩
   case round =>
    obtain ⟨k,c,Y,hk,hc,rfl,M,HY,hsum,hbs⟩:=hrel
    obtain ⟨o2,k2,rfl⟩:=M.form
    have hss:=Below.size hbs
    by_cases hlt2:k < nt
    ·have hkJ:(k:Int) < (nt:Int):=by omega
     rcases (hLT2.below hbs) with h0 | ⟨tb,to,rfl,hel⟩
     ·omega
     have hTm:=hel k hlt2
     obtain ⟨v,ev⟩:∃ v,v = ((P.R i).t k).var:=⟨_,rfl⟩
     obtain ⟨t0,⟨pC,aC,nC,cC,dC,mC,lC,t1,t2,t3,hC⟩,hsC,hszC,hv1,hv2⟩:=hTm
     rw [← ev] at t0 hv1 hv2
     have EV:Hid (v = ((P.R i).t k).var):=ev
     have hkJ2:(k:Int) * 4 = ((k * 4:Nat):Int):=by omega
     clear hel ev
     by_cases hv:0≤v∧v < (m:Int)
     ·obtain ⟨hv0,hvm⟩:=hv
      obtain ⟨j,rfl⟩:=Int.eq_ofNat_of_zero_le hv0
      have hjm:j < m:=by omega
      obtain ⟨hz1,hz2⟩:=HZ.out i j hlt hjm
      rcases (hx.below (aB hbel2 hbs)) with h0 | ⟨bx,ox,rfl,helx⟩
      ·omega
      obtain ⟨pA,aA,nA,cA,dA,mA,lA,c0,c1,c2,hA⟩:=helx j (by omega)
      have hkI4:(j:Int) * 3 = ((j * 3:Nat):Int):=by omega
      have hZk:Zt k≤P.ZR i:=by have:=bI (Z:=Zt) hlt2;omega
      clear helx
      go_wp2_with fail
      have N:=aJ wr #[.int .i64 (j:Int),.bool pC,.slice aC nC cC,.slice dC mC lC] 100
      have hz:=aG wr (.cells #[.int .i64 (j:Int),.bool pC,.slice aC nC cC,.slice dC mC lC] 100)
      have hsz3:wr.heap.size + 1≤(wr.alloc (.cells #[.int .i64 (j:Int),.bool pC,.slice aC nC cC,.slice dC mC lC] 100)).heap.size:=by simp
      have hrow:∀ g,(Value.slice o2 c k2).ownBlock = some g→W2.heap.size≤g∧g < wr.heap.size:=fun g hg=>M.lt g hg
      have hbx:bx < w.heap.size:=by
       rcases hx with h0 | ⟨b',o',e',hev'⟩
       ·omega
       ·simp only [Option.some.injEq,Addr.mk.injEq] at e'
        obtain ⟨rfl,_,_⟩:=e'
        obtain ⟨_,_,_,_,_,_,_,h,_⟩:=hev' j (by omega)
        exact World.block_lt_of_cell? _ _ h
      replace M:=M.below hss hz
      replace hA:=hA.below hz
      replace hC:=hC.below hz
      have hTw:=hT.below (aB (aB hbel2 hbs) hz)
      have hbs2:=aB hbs hz
      replace c0:=aF hz c0
      replace c1:=aF hz c1
      replace c2:=aF hz c2
      have n0:=N 0 _ rfl
      have n1:=N 1 _ rfl
      have n2:=N 2 _ rfl
      have n3:=N 3 _ rfl
      clear t0 t1 t2 t3 hz N
      generalize wr.alloc (.cells #[.int .i64 (j:Int),.bool pC,.slice aC nC cC,.slice dC mC lC] 100) = W3 at *
      have HB:∀ w',Below W3.heap.size W3 w'→(w'.cell? ⟨wr.heap.size,0,none⟩ = some (.int .i64 (j:Int))∧w'.cell? ⟨wr.heap.size,1,none⟩ = some (.bool pC)∧w'.cell? ⟨wr.heap.size,2,none⟩ = some (.slice aC nC cC)∧w'.cell? ⟨wr.heap.size,3,none⟩ = some (.slice dC mC lC)∧w'.cell? ⟨bx,ox + j * 3,none⟩ = some (.bool pA)∧w'.cell? ⟨bx,ox + j * 3 + 1,none⟩ = some (.slice aA nA cA)∧w'.cell? ⟨bx,ox + j * 3 + 2,none⟩ = some (.slice dA mA lA)):=fun w' h=>⟨aF h n0,aF h n1,aF h n2,aF h n3,aF h c0,aF h c1,aF h c2⟩
      have HG:∀ V w':World,(V.cell? ⟨wr.heap.size,0,none⟩ = some (.int .i64 (j:Int))∧V.cell? ⟨wr.heap.size,1,none⟩ = some (.bool pC)∧V.cell? ⟨wr.heap.size,2,none⟩ = some (.slice aC nC cC)∧V.cell? ⟨wr.heap.size,3,none⟩ = some (.slice dC mC lC)∧V.cell? ⟨bx,ox + j * 3,none⟩ = some (.bool pA)∧V.cell? ⟨bx,ox + j * 3 + 1,none⟩ = some (.slice aA nA cA)∧V.cell? ⟨bx,ox + j * 3 + 2,none⟩ = some (.slice dA mA lA))→V.grownBy w' (Value.slice o2 c k2).ownBlock→(w'.cell? ⟨wr.heap.size,0,none⟩ = some (.int .i64 (j:Int))∧w'.cell? ⟨wr.heap.size,1,none⟩ = some (.bool pC)∧w'.cell? ⟨wr.heap.size,2,none⟩ = some (.slice aC nC cC)∧w'.cell? ⟨wr.heap.size,3,none⟩ = some (.slice dC mC lC)∧w'.cell? ⟨bx,ox + j * 3,none⟩ = some (.bool pA)∧w'.cell? ⟨bx,ox + j * 3 + 1,none⟩ = some (.slice aA nA cA)∧w'.cell? ⟨bx,ox + j * 3 + 2,none⟩ = some (.slice dA mA lA)) :=
       fun V w' h hg=>⟨aP hg h.1 (fun e=>by have:=hrow _ e;simp at this),aP hg h.2.1 (fun e=>by have:=hrow _ e;simp at this),aP hg h.2.2.1 (fun e=>by have:=hrow _ e;simp at this),aP hg h.2.2.2.1 (fun e=>by have:=hrow _ e;simp at this),aP hg h.2.2.2.2.1 (fun e=>by have:=hrow _ e;simp at this;omega),aP hg h.2.2.2.2.2.1 (fun e=>by have:=hrow _ e;simp at this;omega),aP hg h.2.2.2.2.2.2 (fun e=>by have:=hrow _ e;simp at this;omega)⟩
      go_region_held3 (fun w'=>w'.cell? ⟨wr.heap.size,0,none⟩ = some (.int .i64 (j:Int))∧w'.cell? ⟨wr.heap.size,1,none⟩ = some (.bool pC)∧w'.cell? ⟨wr.heap.size,2,none⟩ = some (.slice aC nC cC)∧w'.cell? ⟨wr.heap.size,3,none⟩ = some (.slice dC mC lC)∧w'.cell? ⟨bx,ox + j * 3,none⟩ = some (.bool pA)∧w'.cell? ⟨bx,ox + j * 3 + 1,none⟩ = some (.slice aA nA cA)∧w'.cell? ⟨bx,ox + j * 3 + 2,none⟩ = some (.slice dA mA lA))
       (first | (with_reducible refine HG _ _ (HB _ ?_) hgrow;repeat' (first | with_reducible exact hc1 | with_reducible exact Below.refl _ _ | with_reducible refine qO ?_ | with_reducible refine gK ?_)) | (with_reducible refine HB _ ?_;repeat' (first | with_reducible exact hc1 | with_reducible exact Below.refl _ _ | with_reducible refine qO ?_ | with_reducible refine gK ?_)))
       ((first
        | (go_at_call 50;go_fit (zZ _ (hC.below (by first | exact aK _ | exact dL _ _)) (hA.below (by first | exact aK _ | exact dL _ _)) (by omega) (by omega) (by omega) (hTw.below (by first | exact aK _ | exact dL _ _)));rintro e v1 ⟨f2,e2,m2,l2,e3,m3,l3,rfl,G2,hb1⟩;have hc1:Below W3.heap.size W3 v1:=(by first | exact aB (aK _) hb1 | exact aB (dL _ _) hb1);have hsv1:=Below.size hc1)
        | (refine pR _ (by rfl) _ _ (by rfl) W2.heap.size (.slice o2 c k2) c Y S (by rfl) ((M.below (by omega) hc1).below (by omega) (aG _ _)) v1.heap.size _ (by rfl) f2 e2 m2 l2 e3 m3 l3 _ (fK (by rfl)) (.inl (((G2.below (aG _ _)).mono (by simp;omega)).le (by omega))) (by omega) (by simp;omega) (v1.heap.size + 1) (by simp) ?_;intro g cap1 w3 LN hgrow hat hlt1)))
      have hg2:=grown_below (B:=W2.heap.size) hgrow (by simp;omega) (fun g hg=>(hrow g hg).1)
      have hbs':Below W2.heap.size W2 w3:=(gK (aB hbs2 hc1)).trans hg2
      have etv:tv (P.R i) X m k = ((P.R i).t k).coef * X j:=by
       unfold tv
       rw [← EV.out,if_pos ⟨hv0,hvm⟩]
       rfl
      have hsum':aQ (fun q=>if q < c then Y q else ((P.R i).t k).coef * X j) (c + 1) = aQ (tv (P.R i) X m) (k + 1):=by
       rw [aS,aS,etv,← hsum]
       simp only [Nat.lt_irrefl,if_false]
       congr 1
       exact bG fun q hq=>by simp only [hq,if_true]
      have HY':∀ q,q < c + 1→∃ q',(fun q=>if q < c then Y q else ((P.R i).t k).coef * X j) q = tv (P.R i) X m q'∧q' < nt∧0≤((P.R i).t q').var∧((P.R i).t q').var < (m:Int):=by
       intro q hq
       by_cases h:q < c
       ·simp only [h,if_true];exact HY q h
       ·simp only [h,if_false];exact ⟨k,etv.symm,hlt2,by rw [← EV.out];exact hv0,by rw [← EV.out];exact hvm⟩
      clear HB HG M hgrow hat hlt1 hsum HY
      go_wp2
      go_roundw
      case rel=>refine ⟨_,_,_,?_,rfl,rfl,rfl⟩;exact ⟨k + 1,by omega,c + 1,by omega,by go_num,_,LN,HY',hsum'⟩
      case measure=>simp [intOf];omega
     ·have etv:tv (P.R i) X m k = 0:=by
       unfold tv
       rw [← EV.out,if_neg hv]
      have hsum':aQ Y c = aQ (tv (P.R i) X m) (k + 1):=by rw [aS,etv,Rat.add_zero];exact hsum
      have hz:=aG wr (.cells #[.int .i64 v,.bool pC,.slice aC nC cC,.slice dC mC lC] 100)
      have M':=M.below hss hz
      have hbs':=aB hbs hz
      clear hz hsum
      by_cases hv0:0≤v
      ·have hvm:¬ v < (m:Int):=fun h=>hv ⟨hv0,h⟩
       go_wp2
       go_roundw
       case rel=>first | exact ⟨k + 1,c,Y,by omega,by omega,by go_num,M',HY,hsum',hbs'⟩ | ((repeat apply Exists.intro);refine ⟨?_,rfl⟩;exact ⟨k + 1,c,Y,by omega,by omega,by go_num,M',HY,hsum',hbs'⟩)
       case measure=>simp [intOf];omega
      ·go_wp2
       go_roundw
       case rel=>first | exact ⟨k + 1,c,Y,by omega,by omega,by go_num,M',HY,hsum',hbs'⟩ | ((repeat apply Exists.intro);refine ⟨?_,rfl⟩;exact ⟨k + 1,c,Y,by omega,by omega,by go_num,M',HY,hsum',hbs'⟩)
       case measure=>simp [intOf];omega
    ·have hkJ:¬ (k:Int) < (nt:Int):=by omega
     obtain rfl:k = nt:=by omega
     have hTr:=hT.below (aB hbel2 hbs)
     have L3:=L2.below hbs
     have hbel3:=aB hbel2 hbs
     have hsz4:=row_sz (r:=P.R i) (Zt:=Zt) (Y:=Y) (m:=m) (c:=c) (R:=P.ZR i) (hC:=by rw [← ENT.out];exact hLT2.sz) (by rw [← ENT.out];exact htot) HX.out HDA.out.1 HDA.out.2 (by rw [← ENT.out];exact HY) (by omega)
     have hsz5:∀ j,j≤c→SzR (aQ Y j) T:=fun j hj=>(hsz4 j hj).le (HT1.out i hlt)
     have ecv:aQ Y c = cv (P.R i) X m:=by rw [hsum];unfold cv;rw [← ENT.out]
     have hc2:c≤1100000:=by omega
     have HH:=sumQ o2 c k2 Y (fun _=>S) T wr M.lq (fun _ _=>⟨hS1,hST⟩) hT0 hsz5 hc2 hTr
     clear hsz4 hsz5 M HY hLT2 hbs hbel2 L2 hsum hTr
     go_wp2_with fail
     refine HH.mono ?_
     clear HH
     rintro e w2 ⟨f,c1,n1,l1,d1,m1,l2,rfl,G,hx2⟩
     have hs2:=Below.size hx2
     replace L3:=L3.below hx2
     replace hbel3:=aB hbel3 hx2
     replace G:=G.val ecv
     clear hx2
     have hrow:∀ g,(Value.slice o1 i k1).ownBlock = some g→w.heap.size + 1≤g:=fun g hg=>(L3.lt g hg).1
     have hs5:=hbel3.size
     go_wp2_with (at_builtin;refine lY _ rfl _ _ rfl (w.heap.size + 1) (.slice o1 i k1) i (fun j=>cv (P.R j) X m) T rfl (L3.below (aG _ _)) w2.heap.size _ rfl f c1 n1 l1 d1 m1 l2 (fK rfl) ((G.mono (by omega)).below (aG _ _)) (by omega) (by simp;omega) (w2.heap.size + 1) (by simp) ?_)
     intro g1 cap1 w3 LN hgrow hat _
     have hg2:=grown_below (B:=w.heap.size + 1) hgrow (by simp;omega) hrow
     have hbelN:Below w.heap.size w w3:=(gK hbel3).trans (hg2.mono (by omega))
     have hs6:=hg2.size
     have hs7:w.heap.size + 1≤w3.heap.size:=by simp at hs6;omega
     clear hgrow hat hrow L3 G hbel3
     rw [← hra']
     clear hra'
     go_wp2
     go_roundw
     case rel=>first | exact ⟨i + 1,by omega,by go_num,LN,hbelN,hs7⟩ | ((repeat apply Exists.intro);refine ⟨?_,rfl⟩;exact ⟨i + 1,by omega,by go_num,LN,hbelN,hs7⟩)
     case measure=>simp [intOf];omega
  ·have hkI:¬ (i:Int) < (P.rn:Int):=by omega
   obtain rfl:i = P.rn:=by omega
   go_wp2
   go_ret
   exact ⟨_,_,rfl,L.mono (by omega),hbel⟩
end Go.Proofs.YtnokmjmefipplaaGreatDoor
