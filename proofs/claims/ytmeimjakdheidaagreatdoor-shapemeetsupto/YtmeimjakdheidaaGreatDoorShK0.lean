import Derived.Test.YtmeimjakdheidaaGreatDoorShHAll
import Derived.Test.YtmeimjakdheidaaGreatDoorPsABll
namespace Go.Proofs.YtmeimjakdheidaaGreatDoor
open Go.RowKit
theorem vbs_sz {v:PV} {S:Nat} (h1:SzR v.lo S) (h2:SzR v.hi S) (hS:1≤S):SzR (vbs v) S:=by
 unfold vbs
 split
 ·exact h1
 ·split
  ·exact h2
  ·exact kE hS
theorem PQ.bases {w:World} {P:Prob} (hP:PQ w P):∃ D,0<D∧D<pw (tot P.ZV P.vn)∧∀ j,j<P.vn→Wd (tot P.ZV P.vn) D (vbs (P.V j)) :=
 Wd.list (X:=fun j=>vbs (P.V j)) (Z:=P.ZV) (fun j hj=>by
  obtain ⟨b,o,h⟩:=hP.var hj
  exact vbs_sz h.slo h.shi h.s1) (Nat.le_refl _)
theorem PQ.val_szX {w:World} {P:Prob} (hP:PQ w P) {Kx:Nat} {X:Nat→Rat} {Dx:Int} (dx1:0<Dx) (dx2:Dx<pw Kx) (dx3:∀ j,j<P.vn→Wd Kx Dx (X j)) (hK:P.K≤1048576):∀ k,k≤P.vn+1→SzR (bJ (prt P.k P.V X) k) (P.K+Kx+1):=by
 intro k hk
 have hall:=hP.all
 have hl:=dI P.ZV P.vn
 obtain ⟨Do,o1,o2,o3⟩:=Wd.list (X:=fun j=>(P.V j).obj) (Z:=P.ZV) (n:=P.vn) (K:=tot P.ZV P.vn) (fun j hj=>by
  obtain ⟨b,o,hV⟩:=hP.var hj
  exact hV.sobj) (Nat.le_refl _)
 have hs:=Wd.self hP.sk
 have k1:=hs.1
 have k2:=hs.2.1
 generalize (P.k.den:Int)=Dk at *
 have q:=iT (Int.le_of_lt o1) o2 (Int.le_of_lt dx1) dx2
 have q0:0<Do*Dx:=Int.mul_pos o1 dx1
 have q2:=iT (Int.le_of_lt k1) k2 q.2 q.1
 have h4:=Wd.sum (Y:=prt P.k P.V X) (n:=P.vn+1) (D:=Dk*(Do*Dx)) (Int.mul_pos k1 q0) q2.1 (fun j hj=>by
  cases j with
  | zero=>exact (hs.lift q0 q.1)
  | succ j=>exact ((o3 j (by omega)).mul (dx3 j (by omega))).lift' k1 k2) (by omega) k hk
 exact (h4.up (show _≤P.K+Kx+1 by omega)).sz (by omega)
theorem PQ.starts {w:World} {P:Prob} (hP:PQ w P) (hK:P.K≤1048576) {i:Nat} (hi:i<P.rn):SzR (cv (P.R i) (fun j=>vbs (P.V j)) P.vn) (2*P.K+3)∧SzR ((P.R i).lo-cv (P.R i) (fun j=>vbs (P.V j)) P.vn) (2*P.K+3)∧SzR ((P.R i).hi-cv (P.R i) (fun j=>vbs (P.V j)) P.vn) (2*P.K+3):=by
 obtain ⟨Db,b1,b2,b3⟩:=hP.bases
 obtain ⟨rb,ro,hR⟩:=hP.row hi
 obtain ⟨ta,tc,Zt,_,hLT,htot,_⟩:=hR.terms
 have hall:=hP.all
 have hZ:P.ZR i≤tot P.ZR P.rn:=bY hi
 have hnt:(P.R i).nt≤P.K:=hP.nt_le hi
 obtain ⟨Dc,c1,c2,c3⟩:=Wd.list (X:=fun q=>((P.R i).t q).coef) (Z:=Zt) (n:=(P.R i).nt) (K:=P.ZR i) (fun q hq=>(hLT.get q hq).1) htot
 have q:=iT (Int.le_of_lt c1) c2 (Int.le_of_lt b1) b2
 have q0:0<Dc*Db:=Int.mul_pos c1 b1
 have hs:=Wd.sum (Y:=tv (P.R i) (fun j=>vbs (P.V j)) P.vn) (n:=(P.R i).nt) (D:=Dc*Db) q0 q.1 (fun k hk=>by
  unfold tv
  split
  ·rename_i h
   exact (c3 k hk).mul (b3 _ (by omega))
  ·exact Wd.zero q0 q.1) (by omega) (P.R i).nt (Nat.le_refl _)
 have hst:Wd (P.ZR i+tot P.ZV P.vn+1) (Dc*Db) (cv (P.R i) (fun j=>vbs (P.V j)) P.vn):=hs
 have sb:∀ x,SzR x (P.ZR i)→SzR (x-cv (P.R i) (fun j=>vbs (P.V j)) P.vn) (2*P.K+3):=fun x hx=>by
  have hw:=Wd.self hx
  have e1:=hw.lift (e:=P.ZR i+tot P.ZV P.vn+1) q0 (Int.lt_of_lt_of_le q.1 (aT (by omega)))
  have e2:=hst.lift' hw.1 hw.2.1
  exact ((e1.sub e2).up (show _≤2*P.K+3 by omega)).sz (by omega)
 exact ⟨(hst.up (show _≤2*P.K+3 by omega)).sz (by omega),sb _ hR.slo,sb _ hR.shi⟩
theorem rat_width (a b s:Rat):(a-s)-(b-s)=a-b:=by
 rw [Rat.sub_eq_add_neg,Rat.sub_eq_add_neg,Rat.sub_eq_add_neg,Rat.sub_eq_add_neg,Rat.neg_add,Rat.neg_neg,Rat.add_assoc,Rat.add_comm (-b) s,← Rat.add_assoc (-s),Rat.neg_add_cancel,Rat.zero_add]
theorem sub_sz {a b:Rat} {S:Nat} (h:SzR a S) (k:SzR b S):SzR (a-b) (2*S+1):=by
 have e:=h.add (s:=-b) (R:=S) ⟨by rw [Rat.neg_num];simpa using k.1,by rw [Rat.neg_den];exact k.2⟩
 rw [← Rat.sub_eq_add_neg] at e
 exact e.le (by omega)
end Go.Proofs.YtmeimjakdheidaaGreatDoor
